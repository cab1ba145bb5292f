/-
  The document's Decode answers as the program's, for every word.
  The document's Access answers as the program's, for every processor and instruction.
-/
import Derived.Test.YteegkhnikcioiaaGreatDoorMCLaidR
import Derived.Test.YteegkhnikcioiaaGreatDoorMCDoor
import Derived.Test.YteegkhnikcioiaaGreatDoorMCEnds
namespace Go.Proofs.YteegkhnikcioiaaGreatDoor.Cpu
open Go.ChangeShapes Go.WideShapes Go.ChangeAt Go.RowKit
attribute [local go_sem ↓] loadCpu_seal storeCpu_seal loadIn_seal storeIn_seal
attribute [local go_sem] loadCpu_run storeCpu_run loadIn_run storeIn_run rowAt_at rowAt_past rowAt_drew rowAt_drewN roomCpu_new roomIn_new roomAt_old roomAt_drew roomAt_drewN putCpu_new putIn_new Cp.zero_fold In.fold putRow_past rowCpu_put rowIn_put size_put putRow_drew putRow_drewN alloc_drewN setCell_drewN Cp.at16 Cp.at17 Cp.at18 Cp.at19 Cp.at20 Cp.at21 Cp.size Cp.set16 Cp.set17 Cp.set18 Cp.set19 Cp.set20 Cp.set21 In.at0 In.at1 In.at2 In.at3 In.at4 In.at5 In.at6 In.at7 In.size In.set0 In.set1 In.set2 In.set3 In.ne Cp.ne In.set4 In.set5 In.set6 In.set7

theorem keeps2 (w : World) (c1 c2 : Array Value) (t1 t2 : TypeId) : Keeps w [(w.heap.size + 1, c2), (w.heap.size, c1)] ((w.alloc (.cells c1 t1)).alloc (.cells c2 t2)) := by
  have := ((Keeps.refl w).new c1 t1).new c2 t2
  simpa using this
set_option maxHeartbeats 1000000 in
theorem rdecode_0 (x : Int) (w : World) (h0 : 0 ≤ x) (h1 : x ≤ 4294967295) (hF : fldI x 30 2 = 0) : Calls Tryz.prog 59 #[.int .u32 x] w fun e w' => e = .returned (.tuple #[.agg (decI x).cells, .bool (decOk x)]) ∧ Below w.heap.size w w' := by
  have hu : unpackI x = ({ F := 0, U := fldI x 29 1 == 1, V := fldI x 28 1 == 1, A := fldI x 24 4, B := fldI x 20 4, O := fldI x 16 4, C := fldI x 0 4, N := 0 } : In) := by simp [unpackI, hF]
  have b20 : 0 ≤ fldI x 0 20 ∧ fldI x 0 20 < 1048576 := fldI_bd x 0 20
  have b24 : 0 ≤ fldI x 0 24 ∧ fldI x 0 24 < 16777216 := fldI_bd x 0 24
  have f20 := sx_fld20 x
  have f24 := sx_fld24 x
  cases hr : rightB ({ F := 0, U := fldI x 29 1 == 1, V := fldI x 28 1 == 1, A := fldI x 24 4, B := fldI x 20 4, O := fldI x 16 4, C := fldI x 0 4, N := 0 } : In)
  · have hd : decOk x = false := by simp [decOk, hu, hr]
    have hi : decI x = ({ F := 0, U := false, V := false, A := 0, B := 0, O := 0, C := 0, N := 0 } : In) := by simp [decI, hd]
    rw [hd, hi]
    clear hd hi hu
    go_enter Tryz.func59, Tryz.ntmps59
    go_wp2_with (first | (go_at_call 84; refine (rfield_at _ _ _ _ h0 h1 (by omega) (by omega) (by omega) (by omega)).mono ?_; rintro e w' ⟨rfl, n, rfl⟩) | (go_at_call 86; refine (rright_any ({ F := 0, U := fldI x 29 1 == 1, V := fldI x 28 1 == 1, A := fldI x 24 4, B := fldI x 20 4, O := fldI x 16 4, C := fldI x 0 4, N := 0 } : In) _).mono ?_; rw [hr]; rintro e w1 ⟨rfl, hb⟩; have HK : Hid (Keeps w [(w.heap.size + 1, ({ F := 0, U := fldI x 29 1 == 1, V := fldI x 28 1 == 1, A := fldI x 24 4, B := fldI x 20 4, O := fldI x 16 4, C := fldI x 0 4, N := 0 } : In).cells), (w.heap.size, ({ F := 0, U := false, V := false, A := 0, B := 0, O := 0, C := 0, N := 0 } : In).cells)] w1) := Keeps.call hb (Keeps.drewN (keeps2 w _ _ _ _) _); have r1 : roomAt w1 w.heap.size 8 = true := HK.out.room (b := w.heap.size) (c := ({ F := 0, U := false, V := false, A := 0, B := 0, O := 0, C := 0, N := 0 } : In).cells) (by simp); have q1 := HK.out.row (b := w.heap.size + 1) (c := ({ F := 0, U := fldI x 29 1 == 1, V := fldI x 28 1 == 1, A := fldI x 24 4, B := fldI x 20 4, O := fldI x 16 4, C := fldI x 0 4, N := 0 } : In).cells) (by simp)))
    exact ret_cell_tmp rfl rfl (loadIn_row (rowIn_put _ _ _ r1)) rfl ⟨rfl, below_put HK.out.1 _ (Nat.le_refl _) _⟩
  · have HR := right_bd hr
    cases hp : packV ({ F := 0, U := fldI x 29 1 == 1, V := fldI x 28 1 == 1, A := fldI x 24 4, B := fldI x 20 4, O := fldI x 16 4, C := fldI x 0 4, N := 0 } : In) == x
    · have hd : decOk x = false := by simp [decOk, hu, hr, hp]
      have hi : decI x = ({ F := 0, U := false, V := false, A := 0, B := 0, O := 0, C := 0, N := 0 } : In) := by simp [decI, hd]
      rw [hd, hi]
      clear hd hi hu
      obtain ⟨y, hy⟩ : ∃ y, packV ({ F := 0, U := fldI x 29 1 == 1, V := fldI x 28 1 == 1, A := fldI x 24 4, B := fldI x 20 4, O := fldI x 16 4, C := fldI x 0 4, N := 0 } : In) = y := ⟨_, rfl⟩
      rw [hy] at hp
      have LH : Hid (∀ w, Calls Tryz.prog 87 #[.agg ({ F := 0, U := fldI x 29 1 == 1, V := fldI x 28 1 == 1, A := fldI x 24 4, B := fldI x 20 4, O := fldI x 16 4, C := fldI x 0 4, N := 0 } : In).cells] w fun e w' => e = .returned (.int .u32 y) ∧ Below w.heap.size w w') := fun w => by
        have hk := laid_any ({ F := 0, U := fldI x 29 1 == 1, V := fldI x 28 1 == 1, A := fldI x 24 4, B := fldI x 20 4, O := fldI x 16 4, C := fldI x 0 4, N := 0 } : In) w HR
        rwa [hy] at hk
      have hne : (y != x) = true := by simp [bne, hp]
      clear hy HR hp
      go_enter Tryz.func59, Tryz.ntmps59
      go_wp2_with (first | (go_at_call 84; refine (rfield_at _ _ _ _ h0 h1 (by omega) (by omega) (by omega) (by omega)).mono ?_; rintro e w' ⟨rfl, n, rfl⟩) | (go_at_call 86; refine (rright_any ({ F := 0, U := fldI x 29 1 == 1, V := fldI x 28 1 == 1, A := fldI x 24 4, B := fldI x 20 4, O := fldI x 16 4, C := fldI x 0 4, N := 0 } : In) _).mono ?_; rw [hr]; rintro e w1 ⟨rfl, hb⟩; have HK : Hid (Keeps w [(w.heap.size + 1, ({ F := 0, U := fldI x 29 1 == 1, V := fldI x 28 1 == 1, A := fldI x 24 4, B := fldI x 20 4, O := fldI x 16 4, C := fldI x 0 4, N := 0 } : In).cells), (w.heap.size, ({ F := 0, U := false, V := false, A := 0, B := 0, O := 0, C := 0, N := 0 } : In).cells)] w1) := Keeps.call hb (Keeps.drewN (keeps2 w _ _ _ _) _); have r1 : roomAt w1 w.heap.size 8 = true := HK.out.room (b := w.heap.size) (c := ({ F := 0, U := false, V := false, A := 0, B := 0, O := 0, C := 0, N := 0 } : In).cells) (by simp); have q1 := HK.out.row (b := w.heap.size + 1) (c := ({ F := 0, U := fldI x 29 1 == 1, V := fldI x 28 1 == 1, A := fldI x 24 4, B := fldI x 20 4, O := fldI x 16 4, C := fldI x 0 4, N := 0 } : In).cells) (by simp)) | (go_at_call 87; refine (LH.out _).mono ?_; rintro e w2 ⟨rfl, hb2⟩; have HK2 : Hid (Keeps w [(w.heap.size + 1, ({ F := 0, U := fldI x 29 1 == 1, V := fldI x 28 1 == 1, A := fldI x 24 4, B := fldI x 20 4, O := fldI x 16 4, C := fldI x 0 4, N := 0 } : In).cells), (w.heap.size, ({ F := 0, U := false, V := false, A := 0, B := 0, O := 0, C := 0, N := 0 } : In).cells)] w2) := HK.out.call hb2; have r2 : roomAt w2 w.heap.size 8 = true := HK2.out.room (b := w.heap.size) (c := ({ F := 0, U := false, V := false, A := 0, B := 0, O := 0, C := 0, N := 0 } : In).cells) (by simp); have q2 := HK2.out.row (b := w.heap.size + 1) (c := ({ F := 0, U := fldI x 29 1 == 1, V := fldI x 28 1 == 1, A := fldI x 24 4, B := fldI x 20 4, O := fldI x 16 4, C := fldI x 0 4, N := 0 } : In).cells) (by simp)))
      exact ret_cell_tmp rfl rfl (loadIn_row (rowIn_put _ _ _ r2)) rfl ⟨rfl, below_put HK2.out.1 _ (Nat.le_refl _) _⟩
    · have hd : decOk x = true := by simp [decOk, hu, hr, hp]
      have hi : decI x = ({ F := 0, U := fldI x 29 1 == 1, V := fldI x 28 1 == 1, A := fldI x 24 4, B := fldI x 20 4, O := fldI x 16 4, C := fldI x 0 4, N := 0 } : In) := by simp [decI, hd, hu]
      rw [hd, hi]
      clear hd hi hu
      have LH : Hid (∀ w, Calls Tryz.prog 87 #[.agg ({ F := 0, U := fldI x 29 1 == 1, V := fldI x 28 1 == 1, A := fldI x 24 4, B := fldI x 20 4, O := fldI x 16 4, C := fldI x 0 4, N := 0 } : In).cells] w fun e w' => e = .returned (.int .u32 x) ∧ Below w.heap.size w w') := fun w => by
        have hk := laid_any ({ F := 0, U := fldI x 29 1 == 1, V := fldI x 28 1 == 1, A := fldI x 24 4, B := fldI x 20 4, O := fldI x 16 4, C := fldI x 0 4, N := 0 } : In) w HR
        rwa [beq_iff_eq.1 hp] at hk
      clear HR hp
      go_enter Tryz.func59, Tryz.ntmps59
      go_wp2_with (first | (go_at_call 84; refine (rfield_at _ _ _ _ h0 h1 (by omega) (by omega) (by omega) (by omega)).mono ?_; rintro e w' ⟨rfl, n, rfl⟩) | (go_at_call 86; refine (rright_any ({ F := 0, U := fldI x 29 1 == 1, V := fldI x 28 1 == 1, A := fldI x 24 4, B := fldI x 20 4, O := fldI x 16 4, C := fldI x 0 4, N := 0 } : In) _).mono ?_; rw [hr]; rintro e w1 ⟨rfl, hb⟩; have HK : Hid (Keeps w [(w.heap.size + 1, ({ F := 0, U := fldI x 29 1 == 1, V := fldI x 28 1 == 1, A := fldI x 24 4, B := fldI x 20 4, O := fldI x 16 4, C := fldI x 0 4, N := 0 } : In).cells), (w.heap.size, ({ F := 0, U := false, V := false, A := 0, B := 0, O := 0, C := 0, N := 0 } : In).cells)] w1) := Keeps.call hb (Keeps.drewN (keeps2 w _ _ _ _) _); have r1 : roomAt w1 w.heap.size 8 = true := HK.out.room (b := w.heap.size) (c := ({ F := 0, U := false, V := false, A := 0, B := 0, O := 0, C := 0, N := 0 } : In).cells) (by simp); have q1 := HK.out.row (b := w.heap.size + 1) (c := ({ F := 0, U := fldI x 29 1 == 1, V := fldI x 28 1 == 1, A := fldI x 24 4, B := fldI x 20 4, O := fldI x 16 4, C := fldI x 0 4, N := 0 } : In).cells) (by simp)) | (go_at_call 87; refine (LH.out _).mono ?_; rintro e w2 ⟨rfl, hb2⟩; have HK2 : Hid (Keeps w [(w.heap.size + 1, ({ F := 0, U := fldI x 29 1 == 1, V := fldI x 28 1 == 1, A := fldI x 24 4, B := fldI x 20 4, O := fldI x 16 4, C := fldI x 0 4, N := 0 } : In).cells), (w.heap.size, ({ F := 0, U := false, V := false, A := 0, B := 0, O := 0, C := 0, N := 0 } : In).cells)] w2) := HK.out.call hb2; have r2 : roomAt w2 w.heap.size 8 = true := HK2.out.room (b := w.heap.size) (c := ({ F := 0, U := false, V := false, A := 0, B := 0, O := 0, C := 0, N := 0 } : In).cells) (by simp); have q2 := HK2.out.row (b := w.heap.size + 1) (c := ({ F := 0, U := fldI x 29 1 == 1, V := fldI x 28 1 == 1, A := fldI x 24 4, B := fldI x 20 4, O := fldI x 16 4, C := fldI x 0 4, N := 0 } : In).cells) (by simp)))
      exact ret_cell_tmp rfl rfl (loadIn_row (rowIn_put _ _ _ r2)) rfl ⟨rfl, below_put HK2.out.1 _ (Nat.le_refl _) _⟩
set_option maxHeartbeats 1000000 in
theorem rdecode_1 (x : Int) (w : World) (h0 : 0 ≤ x) (h1 : x ≤ 4294967295) (hF : fldI x 30 2 = 1) : Calls Tryz.prog 59 #[.int .u32 x] w fun e w' => e = .returned (.tuple #[.agg (decI x).cells, .bool (decOk x)]) ∧ Below w.heap.size w w' := by
  have hu : unpackI x = ({ F := 1, U := fldI x 29 1 == 1, V := fldI x 28 1 == 1, A := fldI x 24 4, B := fldI x 20 4, O := fldI x 16 4, C := 0, N := fldI x 0 16 } : In) := by simp [unpackI, hF]
  have b20 : 0 ≤ fldI x 0 20 ∧ fldI x 0 20 < 1048576 := fldI_bd x 0 20
  have b24 : 0 ≤ fldI x 0 24 ∧ fldI x 0 24 < 16777216 := fldI_bd x 0 24
  have f20 := sx_fld20 x
  have f24 := sx_fld24 x
  cases hr : rightB ({ F := 1, U := fldI x 29 1 == 1, V := fldI x 28 1 == 1, A := fldI x 24 4, B := fldI x 20 4, O := fldI x 16 4, C := 0, N := fldI x 0 16 } : In)
  · have hd : decOk x = false := by simp [decOk, hu, hr]
    have hi : decI x = ({ F := 0, U := false, V := false, A := 0, B := 0, O := 0, C := 0, N := 0 } : In) := by simp [decI, hd]
    rw [hd, hi]
    clear hd hi hu
    go_enter Tryz.func59, Tryz.ntmps59
    go_wp2_with (first | (go_at_call 84; refine (rfield_at _ _ _ _ h0 h1 (by omega) (by omega) (by omega) (by omega)).mono ?_; rintro e w' ⟨rfl, n, rfl⟩) | (go_at_call 86; refine (rright_any ({ F := 1, U := fldI x 29 1 == 1, V := fldI x 28 1 == 1, A := fldI x 24 4, B := fldI x 20 4, O := fldI x 16 4, C := 0, N := fldI x 0 16 } : In) _).mono ?_; rw [hr]; rintro e w1 ⟨rfl, hb⟩; have HK : Hid (Keeps w [(w.heap.size + 1, ({ F := 1, U := fldI x 29 1 == 1, V := fldI x 28 1 == 1, A := fldI x 24 4, B := fldI x 20 4, O := fldI x 16 4, C := 0, N := fldI x 0 16 } : In).cells), (w.heap.size, ({ F := 0, U := false, V := false, A := 0, B := 0, O := 0, C := 0, N := 0 } : In).cells)] w1) := Keeps.call hb (Keeps.drewN (keeps2 w _ _ _ _) _); have r1 : roomAt w1 w.heap.size 8 = true := HK.out.room (b := w.heap.size) (c := ({ F := 0, U := false, V := false, A := 0, B := 0, O := 0, C := 0, N := 0 } : In).cells) (by simp); have q1 := HK.out.row (b := w.heap.size + 1) (c := ({ F := 1, U := fldI x 29 1 == 1, V := fldI x 28 1 == 1, A := fldI x 24 4, B := fldI x 20 4, O := fldI x 16 4, C := 0, N := fldI x 0 16 } : In).cells) (by simp)))
    exact ret_cell_tmp rfl rfl (loadIn_row (rowIn_put _ _ _ r1)) rfl ⟨rfl, below_put HK.out.1 _ (Nat.le_refl _) _⟩
  · have HR := right_bd hr
    cases hp : packV ({ F := 1, U := fldI x 29 1 == 1, V := fldI x 28 1 == 1, A := fldI x 24 4, B := fldI x 20 4, O := fldI x 16 4, C := 0, N := fldI x 0 16 } : In) == x
    · have hd : decOk x = false := by simp [decOk, hu, hr, hp]
      have hi : decI x = ({ F := 0, U := false, V := false, A := 0, B := 0, O := 0, C := 0, N := 0 } : In) := by simp [decI, hd]
      rw [hd, hi]
      clear hd hi hu
      obtain ⟨y, hy⟩ : ∃ y, packV ({ F := 1, U := fldI x 29 1 == 1, V := fldI x 28 1 == 1, A := fldI x 24 4, B := fldI x 20 4, O := fldI x 16 4, C := 0, N := fldI x 0 16 } : In) = y := ⟨_, rfl⟩
      rw [hy] at hp
      have LH : Hid (∀ w, Calls Tryz.prog 87 #[.agg ({ F := 1, U := fldI x 29 1 == 1, V := fldI x 28 1 == 1, A := fldI x 24 4, B := fldI x 20 4, O := fldI x 16 4, C := 0, N := fldI x 0 16 } : In).cells] w fun e w' => e = .returned (.int .u32 y) ∧ Below w.heap.size w w') := fun w => by
        have hk := laid_any ({ F := 1, U := fldI x 29 1 == 1, V := fldI x 28 1 == 1, A := fldI x 24 4, B := fldI x 20 4, O := fldI x 16 4, C := 0, N := fldI x 0 16 } : In) w HR
        rwa [hy] at hk
      have hne : (y != x) = true := by simp [bne, hp]
      clear hy HR hp
      go_enter Tryz.func59, Tryz.ntmps59
      go_wp2_with (first | (go_at_call 84; refine (rfield_at _ _ _ _ h0 h1 (by omega) (by omega) (by omega) (by omega)).mono ?_; rintro e w' ⟨rfl, n, rfl⟩) | (go_at_call 86; refine (rright_any ({ F := 1, U := fldI x 29 1 == 1, V := fldI x 28 1 == 1, A := fldI x 24 4, B := fldI x 20 4, O := fldI x 16 4, C := 0, N := fldI x 0 16 } : In) _).mono ?_; rw [hr]; rintro e w1 ⟨rfl, hb⟩; have HK : Hid (Keeps w [(w.heap.size + 1, ({ F := 1, U := fldI x 29 1 == 1, V := fldI x 28 1 == 1, A := fldI x 24 4, B := fldI x 20 4, O := fldI x 16 4, C := 0, N := fldI x 0 16 } : In).cells), (w.heap.size, ({ F := 0, U := false, V := false, A := 0, B := 0, O := 0, C := 0, N := 0 } : In).cells)] w1) := Keeps.call hb (Keeps.drewN (keeps2 w _ _ _ _) _); have r1 : roomAt w1 w.heap.size 8 = true := HK.out.room (b := w.heap.size) (c := ({ F := 0, U := false, V := false, A := 0, B := 0, O := 0, C := 0, N := 0 } : In).cells) (by simp); have q1 := HK.out.row (b := w.heap.size + 1) (c := ({ F := 1, U := fldI x 29 1 == 1, V := fldI x 28 1 == 1, A := fldI x 24 4, B := fldI x 20 4, O := fldI x 16 4, C := 0, N := fldI x 0 16 } : In).cells) (by simp)) | (go_at_call 87; refine (LH.out _).mono ?_; rintro e w2 ⟨rfl, hb2⟩; have HK2 : Hid (Keeps w [(w.heap.size + 1, ({ F := 1, U := fldI x 29 1 == 1, V := fldI x 28 1 == 1, A := fldI x 24 4, B := fldI x 20 4, O := fldI x 16 4, C := 0, N := fldI x 0 16 } : In).cells), (w.heap.size, ({ F := 0, U := false, V := false, A := 0, B := 0, O := 0, C := 0, N := 0 } : In).cells)] w2) := HK.out.call hb2; have r2 : roomAt w2 w.heap.size 8 = true := HK2.out.room (b := w.heap.size) (c := ({ F := 0, U := false, V := false, A := 0, B := 0, O := 0, C := 0, N := 0 } : In).cells) (by simp); have q2 := HK2.out.row (b := w.heap.size + 1) (c := ({ F := 1, U := fldI x 29 1 == 1, V := fldI x 28 1 == 1, A := fldI x 24 4, B := fldI x 20 4, O := fldI x 16 4, C := 0, N := fldI x 0 16 } : In).cells) (by simp)))
      exact ret_cell_tmp rfl rfl (loadIn_row (rowIn_put _ _ _ r2)) rfl ⟨rfl, below_put HK2.out.1 _ (Nat.le_refl _) _⟩
    · have hd : decOk x = true := by simp [decOk, hu, hr, hp]
      have hi : decI x = ({ F := 1, U := fldI x 29 1 == 1, V := fldI x 28 1 == 1, A := fldI x 24 4, B := fldI x 20 4, O := fldI x 16 4, C := 0, N := fldI x 0 16 } : In) := by simp [decI, hd, hu]
      rw [hd, hi]
      clear hd hi hu
      have LH : Hid (∀ w, Calls Tryz.prog 87 #[.agg ({ F := 1, U := fldI x 29 1 == 1, V := fldI x 28 1 == 1, A := fldI x 24 4, B := fldI x 20 4, O := fldI x 16 4, C := 0, N := fldI x 0 16 } : In).cells] w fun e w' => e = .returned (.int .u32 x) ∧ Below w.heap.size w w') := fun w => by
        have hk := laid_any ({ F := 1, U := fldI x 29 1 == 1, V := fldI x 28 1 == 1, A := fldI x 24 4, B := fldI x 20 4, O := fldI x 16 4, C := 0, N := fldI x 0 16 } : In) w HR
        rwa [beq_iff_eq.1 hp] at hk
      clear HR hp
      go_enter Tryz.func59, Tryz.ntmps59
      go_wp2_with (first | (go_at_call 84; refine (rfield_at _ _ _ _ h0 h1 (by omega) (by omega) (by omega) (by omega)).mono ?_; rintro e w' ⟨rfl, n, rfl⟩) | (go_at_call 86; refine (rright_any ({ F := 1, U := fldI x 29 1 == 1, V := fldI x 28 1 == 1, A := fldI x 24 4, B := fldI x 20 4, O := fldI x 16 4, C := 0, N := fldI x 0 16 } : In) _).mono ?_; rw [hr]; rintro e w1 ⟨rfl, hb⟩; have HK : Hid (Keeps w [(w.heap.size + 1, ({ F := 1, U := fldI x 29 1 == 1, V := fldI x 28 1 == 1, A := fldI x 24 4, B := fldI x 20 4, O := fldI x 16 4, C := 0, N := fldI x 0 16 } : In).cells), (w.heap.size, ({ F := 0, U := false, V := false, A := 0, B := 0, O := 0, C := 0, N := 0 } : In).cells)] w1) := Keeps.call hb (Keeps.drewN (keeps2 w _ _ _ _) _); have r1 : roomAt w1 w.heap.size 8 = true := HK.out.room (b := w.heap.size) (c := ({ F := 0, U := false, V := false, A := 0, B := 0, O := 0, C := 0, N := 0 } : In).cells) (by simp); have q1 := HK.out.row (b := w.heap.size + 1) (c := ({ F := 1, U := fldI x 29 1 == 1, V := fldI x 28 1 == 1, A := fldI x 24 4, B := fldI x 20 4, O := fldI x 16 4, C := 0, N := fldI x 0 16 } : In).cells) (by simp)) | (go_at_call 87; refine (LH.out _).mono ?_; rintro e w2 ⟨rfl, hb2⟩; have HK2 : Hid (Keeps w [(w.heap.size + 1, ({ F := 1, U := fldI x 29 1 == 1, V := fldI x 28 1 == 1, A := fldI x 24 4, B := fldI x 20 4, O := fldI x 16 4, C := 0, N := fldI x 0 16 } : In).cells), (w.heap.size, ({ F := 0, U := false, V := false, A := 0, B := 0, O := 0, C := 0, N := 0 } : In).cells)] w2) := HK.out.call hb2; have r2 : roomAt w2 w.heap.size 8 = true := HK2.out.room (b := w.heap.size) (c := ({ F := 0, U := false, V := false, A := 0, B := 0, O := 0, C := 0, N := 0 } : In).cells) (by simp); have q2 := HK2.out.row (b := w.heap.size + 1) (c := ({ F := 1, U := fldI x 29 1 == 1, V := fldI x 28 1 == 1, A := fldI x 24 4, B := fldI x 20 4, O := fldI x 16 4, C := 0, N := fldI x 0 16 } : In).cells) (by simp)))
      exact ret_cell_tmp rfl rfl (loadIn_row (rowIn_put _ _ _ r2)) rfl ⟨rfl, below_put HK2.out.1 _ (Nat.le_refl _) _⟩
set_option maxHeartbeats 1000000 in
theorem rdecode_2 (x : Int) (w : World) (h0 : 0 ≤ x) (h1 : x ≤ 4294967295) (hF : fldI x 30 2 = 2) : Calls Tryz.prog 59 #[.int .u32 x] w fun e w' => e = .returned (.tuple #[.agg (decI x).cells, .bool (decOk x)]) ∧ Below w.heap.size w w' := by
  have hu : unpackI x = ({ F := 2, U := fldI x 29 1 == 1, V := fldI x 28 1 == 1, A := fldI x 24 4, B := fldI x 20 4, O := 0, C := 0, N := sext x 20 } : In) := by simp [unpackI, hF]
  have b20 : 0 ≤ fldI x 0 20 ∧ fldI x 0 20 < 1048576 := fldI_bd x 0 20
  have b24 : 0 ≤ fldI x 0 24 ∧ fldI x 0 24 < 16777216 := fldI_bd x 0 24
  have f20 := sx_fld20 x
  have f24 := sx_fld24 x
  cases hr : rightB ({ F := 2, U := fldI x 29 1 == 1, V := fldI x 28 1 == 1, A := fldI x 24 4, B := fldI x 20 4, O := 0, C := 0, N := sext x 20 } : In)
  · have hd : decOk x = false := by simp [decOk, hu, hr]
    have hi : decI x = ({ F := 0, U := false, V := false, A := 0, B := 0, O := 0, C := 0, N := 0 } : In) := by simp [decI, hd]
    rw [hd, hi]
    clear hd hi hu
    go_enter Tryz.func59, Tryz.ntmps59
    go_wp2_with (first | (go_at_call 84; refine (rfield_at _ _ _ _ h0 h1 (by omega) (by omega) (by omega) (by omega)).mono ?_; rintro e w' ⟨rfl, n, rfl⟩) | (go_at_call 85; refine (rsext20_any _ _ b20.1 b20.2).mono ?_; rintro e w' ⟨rfl, hx⟩; obtain rfl := hx.symm; clear hx) | (go_at_call 86; refine (rright_any ({ F := 2, U := fldI x 29 1 == 1, V := fldI x 28 1 == 1, A := fldI x 24 4, B := fldI x 20 4, O := 0, C := 0, N := sext x 20 } : In) _).mono ?_; rw [hr]; rintro e w1 ⟨rfl, hb⟩; have HK : Hid (Keeps w [(w.heap.size + 1, ({ F := 2, U := fldI x 29 1 == 1, V := fldI x 28 1 == 1, A := fldI x 24 4, B := fldI x 20 4, O := 0, C := 0, N := sext x 20 } : In).cells), (w.heap.size, ({ F := 0, U := false, V := false, A := 0, B := 0, O := 0, C := 0, N := 0 } : In).cells)] w1) := Keeps.call hb (Keeps.drewN (keeps2 w _ _ _ _) _); have r1 : roomAt w1 w.heap.size 8 = true := HK.out.room (b := w.heap.size) (c := ({ F := 0, U := false, V := false, A := 0, B := 0, O := 0, C := 0, N := 0 } : In).cells) (by simp); have q1 := HK.out.row (b := w.heap.size + 1) (c := ({ F := 2, U := fldI x 29 1 == 1, V := fldI x 28 1 == 1, A := fldI x 24 4, B := fldI x 20 4, O := 0, C := 0, N := sext x 20 } : In).cells) (by simp)))
    exact ret_cell_tmp rfl rfl (loadIn_row (rowIn_put _ _ _ r1)) rfl ⟨rfl, below_put HK.out.1 _ (Nat.le_refl _) _⟩
  · have HR := right_bd hr
    cases hp : packV ({ F := 2, U := fldI x 29 1 == 1, V := fldI x 28 1 == 1, A := fldI x 24 4, B := fldI x 20 4, O := 0, C := 0, N := sext x 20 } : In) == x
    · have hd : decOk x = false := by simp [decOk, hu, hr, hp]
      have hi : decI x = ({ F := 0, U := false, V := false, A := 0, B := 0, O := 0, C := 0, N := 0 } : In) := by simp [decI, hd]
      rw [hd, hi]
      clear hd hi hu
      obtain ⟨y, hy⟩ : ∃ y, packV ({ F := 2, U := fldI x 29 1 == 1, V := fldI x 28 1 == 1, A := fldI x 24 4, B := fldI x 20 4, O := 0, C := 0, N := sext x 20 } : In) = y := ⟨_, rfl⟩
      rw [hy] at hp
      have LH : Hid (∀ w, Calls Tryz.prog 87 #[.agg ({ F := 2, U := fldI x 29 1 == 1, V := fldI x 28 1 == 1, A := fldI x 24 4, B := fldI x 20 4, O := 0, C := 0, N := sext x 20 } : In).cells] w fun e w' => e = .returned (.int .u32 y) ∧ Below w.heap.size w w') := fun w => by
        have hk := laid_any ({ F := 2, U := fldI x 29 1 == 1, V := fldI x 28 1 == 1, A := fldI x 24 4, B := fldI x 20 4, O := 0, C := 0, N := sext x 20 } : In) w HR
        rwa [hy] at hk
      have hne : (y != x) = true := by simp [bne, hp]
      clear hy HR hp
      go_enter Tryz.func59, Tryz.ntmps59
      go_wp2_with (first | (go_at_call 84; refine (rfield_at _ _ _ _ h0 h1 (by omega) (by omega) (by omega) (by omega)).mono ?_; rintro e w' ⟨rfl, n, rfl⟩) | (go_at_call 85; refine (rsext20_any _ _ b20.1 b20.2).mono ?_; rintro e w' ⟨rfl, hx⟩; obtain rfl := hx.symm; clear hx) | (go_at_call 86; refine (rright_any ({ F := 2, U := fldI x 29 1 == 1, V := fldI x 28 1 == 1, A := fldI x 24 4, B := fldI x 20 4, O := 0, C := 0, N := sext x 20 } : In) _).mono ?_; rw [hr]; rintro e w1 ⟨rfl, hb⟩; have HK : Hid (Keeps w [(w.heap.size + 1, ({ F := 2, U := fldI x 29 1 == 1, V := fldI x 28 1 == 1, A := fldI x 24 4, B := fldI x 20 4, O := 0, C := 0, N := sext x 20 } : In).cells), (w.heap.size, ({ F := 0, U := false, V := false, A := 0, B := 0, O := 0, C := 0, N := 0 } : In).cells)] w1) := Keeps.call hb (Keeps.drewN (keeps2 w _ _ _ _) _); have r1 : roomAt w1 w.heap.size 8 = true := HK.out.room (b := w.heap.size) (c := ({ F := 0, U := false, V := false, A := 0, B := 0, O := 0, C := 0, N := 0 } : In).cells) (by simp); have q1 := HK.out.row (b := w.heap.size + 1) (c := ({ F := 2, U := fldI x 29 1 == 1, V := fldI x 28 1 == 1, A := fldI x 24 4, B := fldI x 20 4, O := 0, C := 0, N := sext x 20 } : In).cells) (by simp)) | (go_at_call 87; refine (LH.out _).mono ?_; rintro e w2 ⟨rfl, hb2⟩; have HK2 : Hid (Keeps w [(w.heap.size + 1, ({ F := 2, U := fldI x 29 1 == 1, V := fldI x 28 1 == 1, A := fldI x 24 4, B := fldI x 20 4, O := 0, C := 0, N := sext x 20 } : In).cells), (w.heap.size, ({ F := 0, U := false, V := false, A := 0, B := 0, O := 0, C := 0, N := 0 } : In).cells)] w2) := HK.out.call hb2; have r2 : roomAt w2 w.heap.size 8 = true := HK2.out.room (b := w.heap.size) (c := ({ F := 0, U := false, V := false, A := 0, B := 0, O := 0, C := 0, N := 0 } : In).cells) (by simp); have q2 := HK2.out.row (b := w.heap.size + 1) (c := ({ F := 2, U := fldI x 29 1 == 1, V := fldI x 28 1 == 1, A := fldI x 24 4, B := fldI x 20 4, O := 0, C := 0, N := sext x 20 } : In).cells) (by simp)))
      exact ret_cell_tmp rfl rfl (loadIn_row (rowIn_put _ _ _ r2)) rfl ⟨rfl, below_put HK2.out.1 _ (Nat.le_refl _) _⟩
    · have hd : decOk x = true := by simp [decOk, hu, hr, hp]
      have hi : decI x = ({ F := 2, U := fldI x 29 1 == 1, V := fldI x 28 1 == 1, A := fldI x 24 4, B := fldI x 20 4, O := 0, C := 0, N := sext x 20 } : In) := by simp [decI, hd, hu]
      rw [hd, hi]
      clear hd hi hu
      have LH : Hid (∀ w, Calls Tryz.prog 87 #[.agg ({ F := 2, U := fldI x 29 1 == 1, V := fldI x 28 1 == 1, A := fldI x 24 4, B := fldI x 20 4, O := 0, C := 0, N := sext x 20 } : In).cells] w fun e w' => e = .returned (.int .u32 x) ∧ Below w.heap.size w w') := fun w => by
        have hk := laid_any ({ F := 2, U := fldI x 29 1 == 1, V := fldI x 28 1 == 1, A := fldI x 24 4, B := fldI x 20 4, O := 0, C := 0, N := sext x 20 } : In) w HR
        rwa [beq_iff_eq.1 hp] at hk
      clear HR hp
      go_enter Tryz.func59, Tryz.ntmps59
      go_wp2_with (first | (go_at_call 84; refine (rfield_at _ _ _ _ h0 h1 (by omega) (by omega) (by omega) (by omega)).mono ?_; rintro e w' ⟨rfl, n, rfl⟩) | (go_at_call 85; refine (rsext20_any _ _ b20.1 b20.2).mono ?_; rintro e w' ⟨rfl, hx⟩; obtain rfl := hx.symm; clear hx) | (go_at_call 86; refine (rright_any ({ F := 2, U := fldI x 29 1 == 1, V := fldI x 28 1 == 1, A := fldI x 24 4, B := fldI x 20 4, O := 0, C := 0, N := sext x 20 } : In) _).mono ?_; rw [hr]; rintro e w1 ⟨rfl, hb⟩; have HK : Hid (Keeps w [(w.heap.size + 1, ({ F := 2, U := fldI x 29 1 == 1, V := fldI x 28 1 == 1, A := fldI x 24 4, B := fldI x 20 4, O := 0, C := 0, N := sext x 20 } : In).cells), (w.heap.size, ({ F := 0, U := false, V := false, A := 0, B := 0, O := 0, C := 0, N := 0 } : In).cells)] w1) := Keeps.call hb (Keeps.drewN (keeps2 w _ _ _ _) _); have r1 : roomAt w1 w.heap.size 8 = true := HK.out.room (b := w.heap.size) (c := ({ F := 0, U := false, V := false, A := 0, B := 0, O := 0, C := 0, N := 0 } : In).cells) (by simp); have q1 := HK.out.row (b := w.heap.size + 1) (c := ({ F := 2, U := fldI x 29 1 == 1, V := fldI x 28 1 == 1, A := fldI x 24 4, B := fldI x 20 4, O := 0, C := 0, N := sext x 20 } : In).cells) (by simp)) | (go_at_call 87; refine (LH.out _).mono ?_; rintro e w2 ⟨rfl, hb2⟩; have HK2 : Hid (Keeps w [(w.heap.size + 1, ({ F := 2, U := fldI x 29 1 == 1, V := fldI x 28 1 == 1, A := fldI x 24 4, B := fldI x 20 4, O := 0, C := 0, N := sext x 20 } : In).cells), (w.heap.size, ({ F := 0, U := false, V := false, A := 0, B := 0, O := 0, C := 0, N := 0 } : In).cells)] w2) := HK.out.call hb2; have r2 : roomAt w2 w.heap.size 8 = true := HK2.out.room (b := w.heap.size) (c := ({ F := 0, U := false, V := false, A := 0, B := 0, O := 0, C := 0, N := 0 } : In).cells) (by simp); have q2 := HK2.out.row (b := w.heap.size + 1) (c := ({ F := 2, U := fldI x 29 1 == 1, V := fldI x 28 1 == 1, A := fldI x 24 4, B := fldI x 20 4, O := 0, C := 0, N := sext x 20 } : In).cells) (by simp)))
      exact ret_cell_tmp rfl rfl (loadIn_row (rowIn_put _ _ _ r2)) rfl ⟨rfl, below_put HK2.out.1 _ (Nat.le_refl _) _⟩
set_option maxHeartbeats 1000000 in
theorem rdecode_3f (x : Int) (w : World) (h0 : 0 ≤ x) (h1 : x ≤ 4294967295) (hF : fldI x 30 2 = 3) (hU : (fldI x 29 1 == 1) = false) : Calls Tryz.prog 59 #[.int .u32 x] w fun e w' => e = .returned (.tuple #[.agg (decI x).cells, .bool (decOk x)]) ∧ Below w.heap.size w w' := by
  have hu : unpackI x = ({ F := 3, U := false, V := fldI x 28 1 == 1, A := fldI x 24 4, B := 0, O := 0, C := fldI x 0 4, N := 0 } : In) := by simp [unpackI, hF, hU]
  have b20 : 0 ≤ fldI x 0 20 ∧ fldI x 0 20 < 1048576 := fldI_bd x 0 20
  have b24 : 0 ≤ fldI x 0 24 ∧ fldI x 0 24 < 16777216 := fldI_bd x 0 24
  have f20 := sx_fld20 x
  have f24 := sx_fld24 x
  cases hr : rightB ({ F := 3, U := false, V := fldI x 28 1 == 1, A := fldI x 24 4, B := 0, O := 0, C := fldI x 0 4, N := 0 } : In)
  · have hd : decOk x = false := by simp [decOk, hu, hr]
    have hi : decI x = ({ F := 0, U := false, V := false, A := 0, B := 0, O := 0, C := 0, N := 0 } : In) := by simp [decI, hd]
    rw [hd, hi]
    clear hd hi hu
    go_enter Tryz.func59, Tryz.ntmps59
    go_wp2_with (first | (go_at_call 84; refine (rfield_at _ _ _ _ h0 h1 (by omega) (by omega) (by omega) (by omega)).mono ?_; rintro e w' ⟨rfl, n, rfl⟩) | (go_at_call 86; refine (rright_any ({ F := 3, U := false, V := fldI x 28 1 == 1, A := fldI x 24 4, B := 0, O := 0, C := fldI x 0 4, N := 0 } : In) _).mono ?_; rw [hr]; rintro e w1 ⟨rfl, hb⟩; have HK : Hid (Keeps w [(w.heap.size + 1, ({ F := 3, U := false, V := fldI x 28 1 == 1, A := fldI x 24 4, B := 0, O := 0, C := fldI x 0 4, N := 0 } : In).cells), (w.heap.size, ({ F := 0, U := false, V := false, A := 0, B := 0, O := 0, C := 0, N := 0 } : In).cells)] w1) := Keeps.call hb (Keeps.drewN (keeps2 w _ _ _ _) _); have r1 : roomAt w1 w.heap.size 8 = true := HK.out.room (b := w.heap.size) (c := ({ F := 0, U := false, V := false, A := 0, B := 0, O := 0, C := 0, N := 0 } : In).cells) (by simp); have q1 := HK.out.row (b := w.heap.size + 1) (c := ({ F := 3, U := false, V := fldI x 28 1 == 1, A := fldI x 24 4, B := 0, O := 0, C := fldI x 0 4, N := 0 } : In).cells) (by simp)))
    exact ret_cell_tmp rfl rfl (loadIn_row (rowIn_put _ _ _ r1)) rfl ⟨rfl, below_put HK.out.1 _ (Nat.le_refl _) _⟩
  · have HR := right_bd hr
    cases hp : packV ({ F := 3, U := false, V := fldI x 28 1 == 1, A := fldI x 24 4, B := 0, O := 0, C := fldI x 0 4, N := 0 } : In) == x
    · have hd : decOk x = false := by simp [decOk, hu, hr, hp]
      have hi : decI x = ({ F := 0, U := false, V := false, A := 0, B := 0, O := 0, C := 0, N := 0 } : In) := by simp [decI, hd]
      rw [hd, hi]
      clear hd hi hu
      obtain ⟨y, hy⟩ : ∃ y, packV ({ F := 3, U := false, V := fldI x 28 1 == 1, A := fldI x 24 4, B := 0, O := 0, C := fldI x 0 4, N := 0 } : In) = y := ⟨_, rfl⟩
      rw [hy] at hp
      have LH : Hid (∀ w, Calls Tryz.prog 87 #[.agg ({ F := 3, U := false, V := fldI x 28 1 == 1, A := fldI x 24 4, B := 0, O := 0, C := fldI x 0 4, N := 0 } : In).cells] w fun e w' => e = .returned (.int .u32 y) ∧ Below w.heap.size w w') := fun w => by
        have hk := laid_any ({ F := 3, U := false, V := fldI x 28 1 == 1, A := fldI x 24 4, B := 0, O := 0, C := fldI x 0 4, N := 0 } : In) w HR
        rwa [hy] at hk
      have hne : (y != x) = true := by simp [bne, hp]
      clear hy HR hp
      go_enter Tryz.func59, Tryz.ntmps59
      go_wp2_with (first | (go_at_call 84; refine (rfield_at _ _ _ _ h0 h1 (by omega) (by omega) (by omega) (by omega)).mono ?_; rintro e w' ⟨rfl, n, rfl⟩) | (go_at_call 86; refine (rright_any ({ F := 3, U := false, V := fldI x 28 1 == 1, A := fldI x 24 4, B := 0, O := 0, C := fldI x 0 4, N := 0 } : In) _).mono ?_; rw [hr]; rintro e w1 ⟨rfl, hb⟩; have HK : Hid (Keeps w [(w.heap.size + 1, ({ F := 3, U := false, V := fldI x 28 1 == 1, A := fldI x 24 4, B := 0, O := 0, C := fldI x 0 4, N := 0 } : In).cells), (w.heap.size, ({ F := 0, U := false, V := false, A := 0, B := 0, O := 0, C := 0, N := 0 } : In).cells)] w1) := Keeps.call hb (Keeps.drewN (keeps2 w _ _ _ _) _); have r1 : roomAt w1 w.heap.size 8 = true := HK.out.room (b := w.heap.size) (c := ({ F := 0, U := false, V := false, A := 0, B := 0, O := 0, C := 0, N := 0 } : In).cells) (by simp); have q1 := HK.out.row (b := w.heap.size + 1) (c := ({ F := 3, U := false, V := fldI x 28 1 == 1, A := fldI x 24 4, B := 0, O := 0, C := fldI x 0 4, N := 0 } : In).cells) (by simp)) | (go_at_call 87; refine (LH.out _).mono ?_; rintro e w2 ⟨rfl, hb2⟩; have HK2 : Hid (Keeps w [(w.heap.size + 1, ({ F := 3, U := false, V := fldI x 28 1 == 1, A := fldI x 24 4, B := 0, O := 0, C := fldI x 0 4, N := 0 } : In).cells), (w.heap.size, ({ F := 0, U := false, V := false, A := 0, B := 0, O := 0, C := 0, N := 0 } : In).cells)] w2) := HK.out.call hb2; have r2 : roomAt w2 w.heap.size 8 = true := HK2.out.room (b := w.heap.size) (c := ({ F := 0, U := false, V := false, A := 0, B := 0, O := 0, C := 0, N := 0 } : In).cells) (by simp); have q2 := HK2.out.row (b := w.heap.size + 1) (c := ({ F := 3, U := false, V := fldI x 28 1 == 1, A := fldI x 24 4, B := 0, O := 0, C := fldI x 0 4, N := 0 } : In).cells) (by simp)))
      exact ret_cell_tmp rfl rfl (loadIn_row (rowIn_put _ _ _ r2)) rfl ⟨rfl, below_put HK2.out.1 _ (Nat.le_refl _) _⟩
    · have hd : decOk x = true := by simp [decOk, hu, hr, hp]
      have hi : decI x = ({ F := 3, U := false, V := fldI x 28 1 == 1, A := fldI x 24 4, B := 0, O := 0, C := fldI x 0 4, N := 0 } : In) := by simp [decI, hd, hu]
      rw [hd, hi]
      clear hd hi hu
      have LH : Hid (∀ w, Calls Tryz.prog 87 #[.agg ({ F := 3, U := false, V := fldI x 28 1 == 1, A := fldI x 24 4, B := 0, O := 0, C := fldI x 0 4, N := 0 } : In).cells] w fun e w' => e = .returned (.int .u32 x) ∧ Below w.heap.size w w') := fun w => by
        have hk := laid_any ({ F := 3, U := false, V := fldI x 28 1 == 1, A := fldI x 24 4, B := 0, O := 0, C := fldI x 0 4, N := 0 } : In) w HR
        rwa [beq_iff_eq.1 hp] at hk
      clear HR hp
      go_enter Tryz.func59, Tryz.ntmps59
      go_wp2_with (first | (go_at_call 84; refine (rfield_at _ _ _ _ h0 h1 (by omega) (by omega) (by omega) (by omega)).mono ?_; rintro e w' ⟨rfl, n, rfl⟩) | (go_at_call 86; refine (rright_any ({ F := 3, U := false, V := fldI x 28 1 == 1, A := fldI x 24 4, B := 0, O := 0, C := fldI x 0 4, N := 0 } : In) _).mono ?_; rw [hr]; rintro e w1 ⟨rfl, hb⟩; have HK : Hid (Keeps w [(w.heap.size + 1, ({ F := 3, U := false, V := fldI x 28 1 == 1, A := fldI x 24 4, B := 0, O := 0, C := fldI x 0 4, N := 0 } : In).cells), (w.heap.size, ({ F := 0, U := false, V := false, A := 0, B := 0, O := 0, C := 0, N := 0 } : In).cells)] w1) := Keeps.call hb (Keeps.drewN (keeps2 w _ _ _ _) _); have r1 : roomAt w1 w.heap.size 8 = true := HK.out.room (b := w.heap.size) (c := ({ F := 0, U := false, V := false, A := 0, B := 0, O := 0, C := 0, N := 0 } : In).cells) (by simp); have q1 := HK.out.row (b := w.heap.size + 1) (c := ({ F := 3, U := false, V := fldI x 28 1 == 1, A := fldI x 24 4, B := 0, O := 0, C := fldI x 0 4, N := 0 } : In).cells) (by simp)) | (go_at_call 87; refine (LH.out _).mono ?_; rintro e w2 ⟨rfl, hb2⟩; have HK2 : Hid (Keeps w [(w.heap.size + 1, ({ F := 3, U := false, V := fldI x 28 1 == 1, A := fldI x 24 4, B := 0, O := 0, C := fldI x 0 4, N := 0 } : In).cells), (w.heap.size, ({ F := 0, U := false, V := false, A := 0, B := 0, O := 0, C := 0, N := 0 } : In).cells)] w2) := HK.out.call hb2; have r2 : roomAt w2 w.heap.size 8 = true := HK2.out.room (b := w.heap.size) (c := ({ F := 0, U := false, V := false, A := 0, B := 0, O := 0, C := 0, N := 0 } : In).cells) (by simp); have q2 := HK2.out.row (b := w.heap.size + 1) (c := ({ F := 3, U := false, V := fldI x 28 1 == 1, A := fldI x 24 4, B := 0, O := 0, C := fldI x 0 4, N := 0 } : In).cells) (by simp)))
      exact ret_cell_tmp rfl rfl (loadIn_row (rowIn_put _ _ _ r2)) rfl ⟨rfl, below_put HK2.out.1 _ (Nat.le_refl _) _⟩
set_option maxHeartbeats 1000000 in
theorem rdecode_3t (x : Int) (w : World) (h0 : 0 ≤ x) (h1 : x ≤ 4294967295) (hF : fldI x 30 2 = 3) (hU : (fldI x 29 1 == 1) = true) : Calls Tryz.prog 59 #[.int .u32 x] w fun e w' => e = .returned (.tuple #[.agg (decI x).cells, .bool (decOk x)]) ∧ Below w.heap.size w w' := by
  have hu : unpackI x = ({ F := 3, U := true, V := fldI x 28 1 == 1, A := fldI x 24 4, B := 0, O := 0, C := 0, N := sext x 24 } : In) := by simp [unpackI, hF, hU]
  have b20 : 0 ≤ fldI x 0 20 ∧ fldI x 0 20 < 1048576 := fldI_bd x 0 20
  have b24 : 0 ≤ fldI x 0 24 ∧ fldI x 0 24 < 16777216 := fldI_bd x 0 24
  have f20 := sx_fld20 x
  have f24 := sx_fld24 x
  cases hr : rightB ({ F := 3, U := true, V := fldI x 28 1 == 1, A := fldI x 24 4, B := 0, O := 0, C := 0, N := sext x 24 } : In)
  · have hd : decOk x = false := by simp [decOk, hu, hr]
    have hi : decI x = ({ F := 0, U := false, V := false, A := 0, B := 0, O := 0, C := 0, N := 0 } : In) := by simp [decI, hd]
    rw [hd, hi]
    clear hd hi hu
    go_enter Tryz.func59, Tryz.ntmps59
    go_wp2_with (first | (go_at_call 84; refine (rfield_at _ _ _ _ h0 h1 (by omega) (by omega) (by omega) (by omega)).mono ?_; rintro e w' ⟨rfl, n, rfl⟩) | (go_at_call 85; refine (rsext24_any _ _ b24.1 b24.2).mono ?_; rintro e w' ⟨rfl, hx⟩; obtain rfl := hx.symm; clear hx) | (go_at_call 86; refine (rright_any ({ F := 3, U := true, V := fldI x 28 1 == 1, A := fldI x 24 4, B := 0, O := 0, C := 0, N := sext x 24 } : In) _).mono ?_; rw [hr]; rintro e w1 ⟨rfl, hb⟩; have HK : Hid (Keeps w [(w.heap.size + 1, ({ F := 3, U := true, V := fldI x 28 1 == 1, A := fldI x 24 4, B := 0, O := 0, C := 0, N := sext x 24 } : In).cells), (w.heap.size, ({ F := 0, U := false, V := false, A := 0, B := 0, O := 0, C := 0, N := 0 } : In).cells)] w1) := Keeps.call hb (Keeps.drewN (keeps2 w _ _ _ _) _); have r1 : roomAt w1 w.heap.size 8 = true := HK.out.room (b := w.heap.size) (c := ({ F := 0, U := false, V := false, A := 0, B := 0, O := 0, C := 0, N := 0 } : In).cells) (by simp); have q1 := HK.out.row (b := w.heap.size + 1) (c := ({ F := 3, U := true, V := fldI x 28 1 == 1, A := fldI x 24 4, B := 0, O := 0, C := 0, N := sext x 24 } : In).cells) (by simp)))
    exact ret_cell_tmp rfl rfl (loadIn_row (rowIn_put _ _ _ r1)) rfl ⟨rfl, below_put HK.out.1 _ (Nat.le_refl _) _⟩
  · have HR := right_bd hr
    cases hp : packV ({ F := 3, U := true, V := fldI x 28 1 == 1, A := fldI x 24 4, B := 0, O := 0, C := 0, N := sext x 24 } : In) == x
    · have hd : decOk x = false := by simp [decOk, hu, hr, hp]
      have hi : decI x = ({ F := 0, U := false, V := false, A := 0, B := 0, O := 0, C := 0, N := 0 } : In) := by simp [decI, hd]
      rw [hd, hi]
      clear hd hi hu
      obtain ⟨y, hy⟩ : ∃ y, packV ({ F := 3, U := true, V := fldI x 28 1 == 1, A := fldI x 24 4, B := 0, O := 0, C := 0, N := sext x 24 } : In) = y := ⟨_, rfl⟩
      rw [hy] at hp
      have LH : Hid (∀ w, Calls Tryz.prog 87 #[.agg ({ F := 3, U := true, V := fldI x 28 1 == 1, A := fldI x 24 4, B := 0, O := 0, C := 0, N := sext x 24 } : In).cells] w fun e w' => e = .returned (.int .u32 y) ∧ Below w.heap.size w w') := fun w => by
        have hk := laid_any ({ F := 3, U := true, V := fldI x 28 1 == 1, A := fldI x 24 4, B := 0, O := 0, C := 0, N := sext x 24 } : In) w HR
        rwa [hy] at hk
      have hne : (y != x) = true := by simp [bne, hp]
      clear hy HR hp
      go_enter Tryz.func59, Tryz.ntmps59
      go_wp2_with (first | (go_at_call 84; refine (rfield_at _ _ _ _ h0 h1 (by omega) (by omega) (by omega) (by omega)).mono ?_; rintro e w' ⟨rfl, n, rfl⟩) | (go_at_call 85; refine (rsext24_any _ _ b24.1 b24.2).mono ?_; rintro e w' ⟨rfl, hx⟩; obtain rfl := hx.symm; clear hx) | (go_at_call 86; refine (rright_any ({ F := 3, U := true, V := fldI x 28 1 == 1, A := fldI x 24 4, B := 0, O := 0, C := 0, N := sext x 24 } : In) _).mono ?_; rw [hr]; rintro e w1 ⟨rfl, hb⟩; have HK : Hid (Keeps w [(w.heap.size + 1, ({ F := 3, U := true, V := fldI x 28 1 == 1, A := fldI x 24 4, B := 0, O := 0, C := 0, N := sext x 24 } : In).cells), (w.heap.size, ({ F := 0, U := false, V := false, A := 0, B := 0, O := 0, C := 0, N := 0 } : In).cells)] w1) := Keeps.call hb (Keeps.drewN (keeps2 w _ _ _ _) _); have r1 : roomAt w1 w.heap.size 8 = true := HK.out.room (b := w.heap.size) (c := ({ F := 0, U := false, V := false, A := 0, B := 0, O := 0, C := 0, N := 0 } : In).cells) (by simp); have q1 := HK.out.row (b := w.heap.size + 1) (c := ({ F := 3, U := true, V := fldI x 28 1 == 1, A := fldI x 24 4, B := 0, O := 0, C := 0, N := sext x 24 } : In).cells) (by simp)) | (go_at_call 87; refine (LH.out _).mono ?_; rintro e w2 ⟨rfl, hb2⟩; have HK2 : Hid (Keeps w [(w.heap.size + 1, ({ F := 3, U := true, V := fldI x 28 1 == 1, A := fldI x 24 4, B := 0, O := 0, C := 0, N := sext x 24 } : In).cells), (w.heap.size, ({ F := 0, U := false, V := false, A := 0, B := 0, O := 0, C := 0, N := 0 } : In).cells)] w2) := HK.out.call hb2; have r2 : roomAt w2 w.heap.size 8 = true := HK2.out.room (b := w.heap.size) (c := ({ F := 0, U := false, V := false, A := 0, B := 0, O := 0, C := 0, N := 0 } : In).cells) (by simp); have q2 := HK2.out.row (b := w.heap.size + 1) (c := ({ F := 3, U := true, V := fldI x 28 1 == 1, A := fldI x 24 4, B := 0, O := 0, C := 0, N := sext x 24 } : In).cells) (by simp)))
      exact ret_cell_tmp rfl rfl (loadIn_row (rowIn_put _ _ _ r2)) rfl ⟨rfl, below_put HK2.out.1 _ (Nat.le_refl _) _⟩
    · have hd : decOk x = true := by simp [decOk, hu, hr, hp]
      have hi : decI x = ({ F := 3, U := true, V := fldI x 28 1 == 1, A := fldI x 24 4, B := 0, O := 0, C := 0, N := sext x 24 } : In) := by simp [decI, hd, hu]
      rw [hd, hi]
      clear hd hi hu
      have LH : Hid (∀ w, Calls Tryz.prog 87 #[.agg ({ F := 3, U := true, V := fldI x 28 1 == 1, A := fldI x 24 4, B := 0, O := 0, C := 0, N := sext x 24 } : In).cells] w fun e w' => e = .returned (.int .u32 x) ∧ Below w.heap.size w w') := fun w => by
        have hk := laid_any ({ F := 3, U := true, V := fldI x 28 1 == 1, A := fldI x 24 4, B := 0, O := 0, C := 0, N := sext x 24 } : In) w HR
        rwa [beq_iff_eq.1 hp] at hk
      clear HR hp
      go_enter Tryz.func59, Tryz.ntmps59
      go_wp2_with (first | (go_at_call 84; refine (rfield_at _ _ _ _ h0 h1 (by omega) (by omega) (by omega) (by omega)).mono ?_; rintro e w' ⟨rfl, n, rfl⟩) | (go_at_call 85; refine (rsext24_any _ _ b24.1 b24.2).mono ?_; rintro e w' ⟨rfl, hx⟩; obtain rfl := hx.symm; clear hx) | (go_at_call 86; refine (rright_any ({ F := 3, U := true, V := fldI x 28 1 == 1, A := fldI x 24 4, B := 0, O := 0, C := 0, N := sext x 24 } : In) _).mono ?_; rw [hr]; rintro e w1 ⟨rfl, hb⟩; have HK : Hid (Keeps w [(w.heap.size + 1, ({ F := 3, U := true, V := fldI x 28 1 == 1, A := fldI x 24 4, B := 0, O := 0, C := 0, N := sext x 24 } : In).cells), (w.heap.size, ({ F := 0, U := false, V := false, A := 0, B := 0, O := 0, C := 0, N := 0 } : In).cells)] w1) := Keeps.call hb (Keeps.drewN (keeps2 w _ _ _ _) _); have r1 : roomAt w1 w.heap.size 8 = true := HK.out.room (b := w.heap.size) (c := ({ F := 0, U := false, V := false, A := 0, B := 0, O := 0, C := 0, N := 0 } : In).cells) (by simp); have q1 := HK.out.row (b := w.heap.size + 1) (c := ({ F := 3, U := true, V := fldI x 28 1 == 1, A := fldI x 24 4, B := 0, O := 0, C := 0, N := sext x 24 } : In).cells) (by simp)) | (go_at_call 87; refine (LH.out _).mono ?_; rintro e w2 ⟨rfl, hb2⟩; have HK2 : Hid (Keeps w [(w.heap.size + 1, ({ F := 3, U := true, V := fldI x 28 1 == 1, A := fldI x 24 4, B := 0, O := 0, C := 0, N := sext x 24 } : In).cells), (w.heap.size, ({ F := 0, U := false, V := false, A := 0, B := 0, O := 0, C := 0, N := 0 } : In).cells)] w2) := HK.out.call hb2; have r2 : roomAt w2 w.heap.size 8 = true := HK2.out.room (b := w.heap.size) (c := ({ F := 0, U := false, V := false, A := 0, B := 0, O := 0, C := 0, N := 0 } : In).cells) (by simp); have q2 := HK2.out.row (b := w.heap.size + 1) (c := ({ F := 3, U := true, V := fldI x 28 1 == 1, A := fldI x 24 4, B := 0, O := 0, C := 0, N := sext x 24 } : In).cells) (by simp)))
      exact ret_cell_tmp rfl rfl (loadIn_row (rowIn_put _ _ _ r2)) rfl ⟨rfl, below_put HK2.out.1 _ (Nat.le_refl _) _⟩
theorem rdecode_any (x : Int) (w : World) (h0 : 0 ≤ x) (h1 : x ≤ 4294967295) : Calls Tryz.prog 59 #[.int .u32 x] w fun e w' => e = .returned (.tuple #[.agg (decI x).cells, .bool (decOk x)]) ∧ Below w.heap.size w w' := by
  have b30 : 0 ≤ fldI x 30 2 ∧ fldI x 30 2 < 4 := fldI_bd x 30 2
  have hF : fldI x 30 2 = 0 ∨ fldI x 30 2 = 1 ∨ fldI x 30 2 = 2 ∨ fldI x 30 2 = 3 := by omega
  rcases hF with hF | hF | hF | hF
  · exact rdecode_0 x w h0 h1 hF
  · exact rdecode_1 x w h0 h1 hF
  · exact rdecode_2 x w h0 h1 hF
  · cases hU : (fldI x 29 1 == 1)
    · exact rdecode_3f x w h0 h1 hF hU
    · exact rdecode_3t x w h0 h1 hF hU
end Go.Proofs.YteegkhnikcioiaaGreatDoor.Cpu

namespace Go.Proofs.YteegkhnikcioiaaGreatDoor.Cpu
open Go.ChangeShapes Go.WideShapes Go.ChangeAt Go.RowKit
attribute [local go_sem ↓] loadCpu_seal storeCpu_seal loadIn_seal storeIn_seal
attribute [local go_sem] loadCpu_run storeCpu_run loadIn_run storeIn_run rowAt_at rowAt_past rowAt_drew rowAt_drewN roomCpu_new roomIn_new roomAt_old roomAt_drew roomAt_drewN putCpu_new putIn_new Cp.zero_fold In.fold putRow_past rowCpu_put rowIn_put size_put putRow_drew putRow_drewN alloc_drewN setCell_drewN Cp.at16 Cp.at17 Cp.at18 Cp.at19 Cp.at20 Cp.at21 Cp.size Cp.set16 Cp.set17 Cp.set18 Cp.set19 Cp.set20 Cp.set21 In.at0 In.at1 In.at2 In.at3 In.at4 In.at5 In.at6 In.at7 In.size In.set0 In.set1 In.set2 In.set3 In.ne Cp.ne In.set4 In.set5 In.set6 In.set7
attribute [local go_sem ↓] loadAc_seal storeAc_seal
attribute [local go_sem] loadAc_run storeAc_run putAc_new roomAc_new rowAc_put Ac.at0 Ac.at1 Ac.at2 Ac.size Ac.set0 Ac.set1 Ac.set2 Ac.ne Ac.fold

set_option maxHeartbeats 2000000 in
theorem raccess_any (c : Cp) (i : In) (w : World) (hc : c.Ok) : Calls Tryz.prog 61 #[.agg c.cells, .agg i.cells] w fun e w' => e = .returned (.agg (accA c i).cells) ∧ Below w.heap.size w w' := by
  have K0 : Hid (Keeps w [(w.heap.size + 2, ({ K := 0, D := 0, V := 0 } : Ac).cells), (w.heap.size + 1, i.cells), (w.heap.size, c.cells)] (((w.alloc (.cells c.cells 45)).alloc (.cells i.cells 123)).alloc (.cells ({ K := 0, D := 0, V := 0 } : Ac).cells 114))) := keeps3 w _ _ _ _ _ _
  cases hr : rightB i
  · have ha : accA c i = { K := 0, D := 0, V := 0 } := by simp [accA, hr]
    rw [ha]
    clear ha
    go_enter Tryz.func61, Tryz.ntmps61
    go_wp2_with (go_at_call 86; refine (rright_any i _).mono ?_; rw [hr]; rintro e w1 ⟨rfl, hb⟩; have HK : Hid (Keeps w [(w.heap.size + 2, ({ K := 0, D := 0, V := 0 } : Ac).cells), (w.heap.size + 1, i.cells), (w.heap.size, c.cells)] w1) := K0.out.call hb; have q5 : roomAt w1 (w.heap.size + 1 + 1) 3 = true := HK.out.room (b := w.heap.size + 2) (c := ({ K := 0, D := 0, V := 0 } : Ac).cells) (by simp); have l1 := HK.out.cell (b := w.heap.size) (c := c.cells) (by simp); have l2 := HK.out.cell (b := w.heap.size + 1) (c := i.cells) (by simp); have z2 : w.heap.size + 1 + 1 < w1.heap.size := (HK.out.2 (w.heap.size + 2, ({ K := 0, D := 0, V := 0 } : Ac).cells) (by simp)).2.2; have z1 : w.heap.size + 1 < w1.heap.size := Nat.lt_of_succ_lt z2; have z0 : w.heap.size < w1.heap.size := Nat.lt_of_succ_lt z1)
    exact ret_cell1 rfl rfl (loadAc_row (rowAc_put _ _ _ q5)) rfl ⟨rfl, below_put HK.out.1 _ (by omega) _⟩
  · by_cases hF : i.F = 2
    · have R := right_bd hr
      obtain ⟨⟨a0, a1⟩, ⟨b0, b1⟩, _, _⟩ := R
      have ga := Cp.atR c i.A.toNat (by omega)
      have gb := Cp.atR c i.B.toNat (by omega)
      have xa := hc.R i.A.toNat (by omega)
      have xb := hc.R i.B.toNat (by omega)
      have HA : Hid (accA c i = { K := accK i.U i.V, D := (c.R i.B.toNat + i.N) % 4294967296, V := accV i.U i.V (c.R i.A.toNat) }) := by
        show _ = _
        simp [accA, hr, hF]
      cases hU : i.U <;> cases hV : i.V
      all_goals
        go_enter Tryz.func61, Tryz.ntmps61
        go_wp2_with (go_at_call 86; refine (rright_any i _).mono ?_; rw [hr]; rintro e w1 ⟨rfl, hb⟩; have HK : Hid (Keeps w [(w.heap.size + 2, ({ K := 0, D := 0, V := 0 } : Ac).cells), (w.heap.size + 1, i.cells), (w.heap.size, c.cells)] w1) := K0.out.call hb; have q5 : roomAt w1 (w.heap.size + 1 + 1) 3 = true := HK.out.room (b := w.heap.size + 2) (c := ({ K := 0, D := 0, V := 0 } : Ac).cells) (by simp); have l1 := HK.out.cell (b := w.heap.size) (c := c.cells) (by simp); have l2 := HK.out.cell (b := w.heap.size + 1) (c := i.cells) (by simp); have z2 : w.heap.size + 1 + 1 < w1.heap.size := (HK.out.2 (w.heap.size + 2, ({ K := 0, D := 0, V := 0 } : Ac).cells) (by simp)).2.2; have z1 : w.heap.size + 1 < w1.heap.size := Nat.lt_of_succ_lt z2; have z0 : w.heap.size < w1.heap.size := Nat.lt_of_succ_lt z1)
        go_region_held3 (fun X => Keeps w [(w.heap.size + 2, ({ K := 0, D := 0, V := 0 } : Ac).cells), (w.heap.size + 1, i.cells), (w.heap.size, c.cells)] X ∧ rowAt X w.heap.size = some c.cells ∧ rowAt X (w.heap.size + 1) = some i.cells ∧ (∀ j, X.cell? ⟨w.heap.size, j, none⟩ = c.cells[j]?) ∧ (∀ j, X.cell? ⟨w.heap.size + 1, j, none⟩ = i.cells[j]?)) (first | exact Keeps.three (Keeps.drew HK.out) | exact Keeps.three (Keeps.drew (Keeps.alloc HK.out _))) (fail)
        rename_i hh
        clear hh
        go_wp2
        refine ret_cell1 rfl rfl (loadAc_row (show rowAt _ _ = some _ from (rowAt_past _ _ _ (by rw [size_put]; exact z2)).trans (rowAc_put _ _ _ q5))) rfl ⟨?_, ((below_put HK.out.1 _ (by omega) _).alloc (by rw [size_put]; exact HK.out.1.size) _).drew⟩
        rw [HA.out, hU, hV]
        simp [accK, accV]
    · have ha : accA c i = { K := 0, D := 0, V := 0 } := by simp [accA, hF]
      rw [ha]
      have hne : (i.F != 2) = true := by simpa [bne] using hF
      clear ha hF
      go_enter Tryz.func61, Tryz.ntmps61
      go_wp2_with (go_at_call 86; refine (rright_any i _).mono ?_; rw [hr]; rintro e w1 ⟨rfl, hb⟩; have HK : Hid (Keeps w [(w.heap.size + 2, ({ K := 0, D := 0, V := 0 } : Ac).cells), (w.heap.size + 1, i.cells), (w.heap.size, c.cells)] w1) := K0.out.call hb; have q5 : roomAt w1 (w.heap.size + 1 + 1) 3 = true := HK.out.room (b := w.heap.size + 2) (c := ({ K := 0, D := 0, V := 0 } : Ac).cells) (by simp); have l1 := HK.out.cell (b := w.heap.size) (c := c.cells) (by simp); have l2 := HK.out.cell (b := w.heap.size + 1) (c := i.cells) (by simp); have z2 : w.heap.size + 1 + 1 < w1.heap.size := (HK.out.2 (w.heap.size + 2, ({ K := 0, D := 0, V := 0 } : Ac).cells) (by simp)).2.2; have z1 : w.heap.size + 1 < w1.heap.size := Nat.lt_of_succ_lt z2; have z0 : w.heap.size < w1.heap.size := Nat.lt_of_succ_lt z1)
      exact ret_cell1 rfl rfl (loadAc_row (rowAc_put _ _ _ q5)) rfl ⟨rfl, below_put HK.out.1 _ (by omega) _⟩
def neqAc (x y : Value) : Sem Value := binOp .neq 114 x y
theorem neqAc_seal (x y : Value) : binOp .neq 114 x y = neqAc x y := rfl
theorem neqAc_same (a : Ac) (w : World) : (neqAc (.agg a.cells) (.agg a.cells)).run Tryz.prog w = .ok (.bool false) w := by
  unfold neqAc
  simp [go_sem, Tryz.underlying114]
end Go.Proofs.YteegkhnikcioiaaGreatDoor.Cpu
