/-
  The document's Decode answers as the program's, for every word.
-/
import Derived.Test.YtkidfnhgknkpiaaGreatDoorLaidR
import Derived.Test.YtkidfnhgknkpiaaGreatDoorKeep
namespace Go.Proofs.YtkidfnhgknkpiaaGreatDoor
open Go.ChangeShapes Go.WideShapes Go.ChangeAt Go.RowKit
attribute [local go_sem ↓] loadIn_seal storeIn_seal
attribute [local go_sem] loadIn_run storeIn_run rowAt_at rowAt_past rowAt_drew rowAt_drewN roomCpu_new roomIn_new roomAt_old roomAt_drew roomAt_drewN putCpu_new putIn_new Cp.zero_fold In.fold putRow_past rowCpu_put rowIn_put size_put putRow_drew putRow_drewN alloc_drewN setCell_drewN Cp.at16 Cp.at17 Cp.at18 Cp.at19 Cp.at20 Cp.at21 Cp.size Cp.set16 Cp.set17 Cp.set18 Cp.set19 Cp.set20 Cp.set21 In.at0 In.at1 In.at2 In.at3 In.at4 In.at5 In.at6 In.at7 In.size In.set0 In.set1 In.set2 In.set3 In.ne Cp.ne In.set4 In.set5 In.set6 In.set7

theorem Keeps.drewN {w : World} {rows : List (Nat × Array Value)} {X : World} (h : Keeps w rows X) (n : Nat) : Keeps w rows (X.drewN n) := ⟨bdrewN h.1 n, h.2⟩
theorem keeps2 (w : World) (c1 c2 : Array Value) (t1 t2 : TypeId) : Keeps w [(w.heap.size + 1, c2), (w.heap.size, c1)] ((w.alloc (.cells c1 t1)).alloc (.cells c2 t2)) := by
  have := ((Keeps.refl w).new c1 t1).new c2 t2
  simpa using this
set_option maxHeartbeats 1000000 in
theorem rdecode_0 (x : Int) (w : World) (h0 : 0 ≤ x) (h1 : x ≤ 4294967295) (hF : fldI x 30 2 = 0) : Calls Tryz.prog 23 #[.int .u32 x] w fun e w' => e = .returned (.tuple #[.agg (decI x).cells, .bool (decOk x)]) ∧ Below w.heap.size w w' := by
  have hu : unpackI x = ({ F := 0, U := fldI x 29 1 == 1, V := fldI x 28 1 == 1, A := fldI x 24 4, B := fldI x 20 4, O := fldI x 16 4, C := fldI x 0 4, N := 0 } : In) := by simp [unpackI, hF]
  have b20 : 0 ≤ fldI x 0 20 ∧ fldI x 0 20 < 1048576 := fldI_bd x 0 20
  have b24 : 0 ≤ fldI x 0 24 ∧ fldI x 0 24 < 16777216 := fldI_bd x 0 24
  have f20 := sx_fld20 x
  have f24 := sx_fld24 x
  cases hr : rightB ({ F := 0, U := fldI x 29 1 == 1, V := fldI x 28 1 == 1, A := fldI x 24 4, B := fldI x 20 4, O := fldI x 16 4, C := fldI x 0 4, N := 0 } : In)
  · have hd : decOk x = false := by simp [decOk, hu, hr]
    have hi : decI x = ({ F := 0, U := false, V := false, A := 0, B := 0, O := 0, C := 0, N := 0 } : In) := by simp [decI, hd]
    rw [hd, hi]
    clear hd hi hu
    go_enter Tryz.func23, Tryz.ntmps23
    go_wp2_with (first | (go_at_call 53; refine (rfield_at _ _ _ _ h0 h1 (by omega) (by omega) (by omega) (by omega)).mono ?_; rintro e w' ⟨rfl, n, rfl⟩) | (go_at_call 55; refine (rright_any ({ F := 0, U := fldI x 29 1 == 1, V := fldI x 28 1 == 1, A := fldI x 24 4, B := fldI x 20 4, O := fldI x 16 4, C := fldI x 0 4, N := 0 } : In) _).mono ?_; rw [hr]; rintro e w1 ⟨rfl, hb⟩; have HK : Hid (Keeps w [(w.heap.size + 1, ({ F := 0, U := fldI x 29 1 == 1, V := fldI x 28 1 == 1, A := fldI x 24 4, B := fldI x 20 4, O := fldI x 16 4, C := fldI x 0 4, N := 0 } : In).cells), (w.heap.size, ({ F := 0, U := false, V := false, A := 0, B := 0, O := 0, C := 0, N := 0 } : In).cells)] w1) := Keeps.call hb (Keeps.drewN (keeps2 w _ _ _ _) _); have r1 : roomAt w1 w.heap.size 8 = true := HK.out.room (b := w.heap.size) (c := ({ F := 0, U := false, V := false, A := 0, B := 0, O := 0, C := 0, N := 0 } : In).cells) (by simp); have q1 := HK.out.row (b := w.heap.size + 1) (c := ({ F := 0, U := fldI x 29 1 == 1, V := fldI x 28 1 == 1, A := fldI x 24 4, B := fldI x 20 4, O := fldI x 16 4, C := fldI x 0 4, N := 0 } : In).cells) (by simp)))
    exact ret_cell_tmp rfl rfl (loadIn_row (rowIn_put _ _ _ r1)) rfl ⟨rfl, below_put HK.out.1 _ (Nat.le_refl _) _⟩
  · have HR := right_bd hr
    cases hp : packV ({ F := 0, U := fldI x 29 1 == 1, V := fldI x 28 1 == 1, A := fldI x 24 4, B := fldI x 20 4, O := fldI x 16 4, C := fldI x 0 4, N := 0 } : In) == x
    · have hd : decOk x = false := by simp [decOk, hu, hr, hp]
      have hi : decI x = ({ F := 0, U := false, V := false, A := 0, B := 0, O := 0, C := 0, N := 0 } : In) := by simp [decI, hd]
      rw [hd, hi]
      clear hd hi hu
      obtain ⟨y, hy⟩ : ∃ y, packV ({ F := 0, U := fldI x 29 1 == 1, V := fldI x 28 1 == 1, A := fldI x 24 4, B := fldI x 20 4, O := fldI x 16 4, C := fldI x 0 4, N := 0 } : In) = y := ⟨_, rfl⟩
      rw [hy] at hp
      have LH : Hid (∀ w, Calls Tryz.prog 56 #[.agg ({ F := 0, U := fldI x 29 1 == 1, V := fldI x 28 1 == 1, A := fldI x 24 4, B := fldI x 20 4, O := fldI x 16 4, C := fldI x 0 4, N := 0 } : In).cells] w fun e w' => e = .returned (.int .u32 y) ∧ Below w.heap.size w w') := fun w => by
        have hk := laid_any ({ F := 0, U := fldI x 29 1 == 1, V := fldI x 28 1 == 1, A := fldI x 24 4, B := fldI x 20 4, O := fldI x 16 4, C := fldI x 0 4, N := 0 } : In) w HR
        rwa [hy] at hk
      have hne : (y != x) = true := by simp [bne, hp]
      clear hy HR hp
      go_enter Tryz.func23, Tryz.ntmps23
      go_wp2_with (first | (go_at_call 53; refine (rfield_at _ _ _ _ h0 h1 (by omega) (by omega) (by omega) (by omega)).mono ?_; rintro e w' ⟨rfl, n, rfl⟩) | (go_at_call 55; refine (rright_any ({ F := 0, U := fldI x 29 1 == 1, V := fldI x 28 1 == 1, A := fldI x 24 4, B := fldI x 20 4, O := fldI x 16 4, C := fldI x 0 4, N := 0 } : In) _).mono ?_; rw [hr]; rintro e w1 ⟨rfl, hb⟩; have HK : Hid (Keeps w [(w.heap.size + 1, ({ F := 0, U := fldI x 29 1 == 1, V := fldI x 28 1 == 1, A := fldI x 24 4, B := fldI x 20 4, O := fldI x 16 4, C := fldI x 0 4, N := 0 } : In).cells), (w.heap.size, ({ F := 0, U := false, V := false, A := 0, B := 0, O := 0, C := 0, N := 0 } : In).cells)] w1) := Keeps.call hb (Keeps.drewN (keeps2 w _ _ _ _) _); have r1 : roomAt w1 w.heap.size 8 = true := HK.out.room (b := w.heap.size) (c := ({ F := 0, U := false, V := false, A := 0, B := 0, O := 0, C := 0, N := 0 } : In).cells) (by simp); have q1 := HK.out.row (b := w.heap.size + 1) (c := ({ F := 0, U := fldI x 29 1 == 1, V := fldI x 28 1 == 1, A := fldI x 24 4, B := fldI x 20 4, O := fldI x 16 4, C := fldI x 0 4, N := 0 } : In).cells) (by simp)) | (go_at_call 56; refine (LH.out _).mono ?_; rintro e w2 ⟨rfl, hb2⟩; have HK2 : Hid (Keeps w [(w.heap.size + 1, ({ F := 0, U := fldI x 29 1 == 1, V := fldI x 28 1 == 1, A := fldI x 24 4, B := fldI x 20 4, O := fldI x 16 4, C := fldI x 0 4, N := 0 } : In).cells), (w.heap.size, ({ F := 0, U := false, V := false, A := 0, B := 0, O := 0, C := 0, N := 0 } : In).cells)] w2) := HK.out.call hb2; have r2 : roomAt w2 w.heap.size 8 = true := HK2.out.room (b := w.heap.size) (c := ({ F := 0, U := false, V := false, A := 0, B := 0, O := 0, C := 0, N := 0 } : In).cells) (by simp); have q2 := HK2.out.row (b := w.heap.size + 1) (c := ({ F := 0, U := fldI x 29 1 == 1, V := fldI x 28 1 == 1, A := fldI x 24 4, B := fldI x 20 4, O := fldI x 16 4, C := fldI x 0 4, N := 0 } : In).cells) (by simp)))
      exact ret_cell_tmp rfl rfl (loadIn_row (rowIn_put _ _ _ r2)) rfl ⟨rfl, below_put HK2.out.1 _ (Nat.le_refl _) _⟩
    · have hd : decOk x = true := by simp [decOk, hu, hr, hp]
      have hi : decI x = ({ F := 0, U := fldI x 29 1 == 1, V := fldI x 28 1 == 1, A := fldI x 24 4, B := fldI x 20 4, O := fldI x 16 4, C := fldI x 0 4, N := 0 } : In) := by simp [decI, hd, hu]
      rw [hd, hi]
      clear hd hi hu
      have LH : Hid (∀ w, Calls Tryz.prog 56 #[.agg ({ F := 0, U := fldI x 29 1 == 1, V := fldI x 28 1 == 1, A := fldI x 24 4, B := fldI x 20 4, O := fldI x 16 4, C := fldI x 0 4, N := 0 } : In).cells] w fun e w' => e = .returned (.int .u32 x) ∧ Below w.heap.size w w') := fun w => by
        have hk := laid_any ({ F := 0, U := fldI x 29 1 == 1, V := fldI x 28 1 == 1, A := fldI x 24 4, B := fldI x 20 4, O := fldI x 16 4, C := fldI x 0 4, N := 0 } : In) w HR
        rwa [beq_iff_eq.1 hp] at hk
      clear HR hp
      go_enter Tryz.func23, Tryz.ntmps23
      go_wp2_with (first | (go_at_call 53; refine (rfield_at _ _ _ _ h0 h1 (by omega) (by omega) (by omega) (by omega)).mono ?_; rintro e w' ⟨rfl, n, rfl⟩) | (go_at_call 55; refine (rright_any ({ F := 0, U := fldI x 29 1 == 1, V := fldI x 28 1 == 1, A := fldI x 24 4, B := fldI x 20 4, O := fldI x 16 4, C := fldI x 0 4, N := 0 } : In) _).mono ?_; rw [hr]; rintro e w1 ⟨rfl, hb⟩; have HK : Hid (Keeps w [(w.heap.size + 1, ({ F := 0, U := fldI x 29 1 == 1, V := fldI x 28 1 == 1, A := fldI x 24 4, B := fldI x 20 4, O := fldI x 16 4, C := fldI x 0 4, N := 0 } : In).cells), (w.heap.size, ({ F := 0, U := false, V := false, A := 0, B := 0, O := 0, C := 0, N := 0 } : In).cells)] w1) := Keeps.call hb (Keeps.drewN (keeps2 w _ _ _ _) _); have r1 : roomAt w1 w.heap.size 8 = true := HK.out.room (b := w.heap.size) (c := ({ F := 0, U := false, V := false, A := 0, B := 0, O := 0, C := 0, N := 0 } : In).cells) (by simp); have q1 := HK.out.row (b := w.heap.size + 1) (c := ({ F := 0, U := fldI x 29 1 == 1, V := fldI x 28 1 == 1, A := fldI x 24 4, B := fldI x 20 4, O := fldI x 16 4, C := fldI x 0 4, N := 0 } : In).cells) (by simp)) | (go_at_call 56; refine (LH.out _).mono ?_; rintro e w2 ⟨rfl, hb2⟩; have HK2 : Hid (Keeps w [(w.heap.size + 1, ({ F := 0, U := fldI x 29 1 == 1, V := fldI x 28 1 == 1, A := fldI x 24 4, B := fldI x 20 4, O := fldI x 16 4, C := fldI x 0 4, N := 0 } : In).cells), (w.heap.size, ({ F := 0, U := false, V := false, A := 0, B := 0, O := 0, C := 0, N := 0 } : In).cells)] w2) := HK.out.call hb2; have r2 : roomAt w2 w.heap.size 8 = true := HK2.out.room (b := w.heap.size) (c := ({ F := 0, U := false, V := false, A := 0, B := 0, O := 0, C := 0, N := 0 } : In).cells) (by simp); have q2 := HK2.out.row (b := w.heap.size + 1) (c := ({ F := 0, U := fldI x 29 1 == 1, V := fldI x 28 1 == 1, A := fldI x 24 4, B := fldI x 20 4, O := fldI x 16 4, C := fldI x 0 4, N := 0 } : In).cells) (by simp)))
      exact ret_cell_tmp rfl rfl (loadIn_row (rowIn_put _ _ _ r2)) rfl ⟨rfl, below_put HK2.out.1 _ (Nat.le_refl _) _⟩
set_option maxHeartbeats 1000000 in
theorem rdecode_1 (x : Int) (w : World) (h0 : 0 ≤ x) (h1 : x ≤ 4294967295) (hF : fldI x 30 2 = 1) : Calls Tryz.prog 23 #[.int .u32 x] w fun e w' => e = .returned (.tuple #[.agg (decI x).cells, .bool (decOk x)]) ∧ Below w.heap.size w w' := by
  have hu : unpackI x = ({ F := 1, U := fldI x 29 1 == 1, V := fldI x 28 1 == 1, A := fldI x 24 4, B := fldI x 20 4, O := fldI x 16 4, C := 0, N := fldI x 0 16 } : In) := by simp [unpackI, hF]
  have b20 : 0 ≤ fldI x 0 20 ∧ fldI x 0 20 < 1048576 := fldI_bd x 0 20
  have b24 : 0 ≤ fldI x 0 24 ∧ fldI x 0 24 < 16777216 := fldI_bd x 0 24
  have f20 := sx_fld20 x
  have f24 := sx_fld24 x
  cases hr : rightB ({ F := 1, U := fldI x 29 1 == 1, V := fldI x 28 1 == 1, A := fldI x 24 4, B := fldI x 20 4, O := fldI x 16 4, C := 0, N := fldI x 0 16 } : In)
  · have hd : decOk x = false := by simp [decOk, hu, hr]
    have hi : decI x = ({ F := 0, U := false, V := false, A := 0, B := 0, O := 0, C := 0, N := 0 } : In) := by simp [decI, hd]
    rw [hd, hi]
    clear hd hi hu
    go_enter Tryz.func23, Tryz.ntmps23
    go_wp2_with (first | (go_at_call 53; refine (rfield_at _ _ _ _ h0 h1 (by omega) (by omega) (by omega) (by omega)).mono ?_; rintro e w' ⟨rfl, n, rfl⟩) | (go_at_call 55; refine (rright_any ({ F := 1, U := fldI x 29 1 == 1, V := fldI x 28 1 == 1, A := fldI x 24 4, B := fldI x 20 4, O := fldI x 16 4, C := 0, N := fldI x 0 16 } : In) _).mono ?_; rw [hr]; rintro e w1 ⟨rfl, hb⟩; have HK : Hid (Keeps w [(w.heap.size + 1, ({ F := 1, U := fldI x 29 1 == 1, V := fldI x 28 1 == 1, A := fldI x 24 4, B := fldI x 20 4, O := fldI x 16 4, C := 0, N := fldI x 0 16 } : In).cells), (w.heap.size, ({ F := 0, U := false, V := false, A := 0, B := 0, O := 0, C := 0, N := 0 } : In).cells)] w1) := Keeps.call hb (Keeps.drewN (keeps2 w _ _ _ _) _); have r1 : roomAt w1 w.heap.size 8 = true := HK.out.room (b := w.heap.size) (c := ({ F := 0, U := false, V := false, A := 0, B := 0, O := 0, C := 0, N := 0 } : In).cells) (by simp); have q1 := HK.out.row (b := w.heap.size + 1) (c := ({ F := 1, U := fldI x 29 1 == 1, V := fldI x 28 1 == 1, A := fldI x 24 4, B := fldI x 20 4, O := fldI x 16 4, C := 0, N := fldI x 0 16 } : In).cells) (by simp)))
    exact ret_cell_tmp rfl rfl (loadIn_row (rowIn_put _ _ _ r1)) rfl ⟨rfl, below_put HK.out.1 _ (Nat.le_refl _) _⟩
  · have HR := right_bd hr
    cases hp : packV ({ F := 1, U := fldI x 29 1 == 1, V := fldI x 28 1 == 1, A := fldI x 24 4, B := fldI x 20 4, O := fldI x 16 4, C := 0, N := fldI x 0 16 } : In) == x
    · have hd : decOk x = false := by simp [decOk, hu, hr, hp]
      have hi : decI x = ({ F := 0, U := false, V := false, A := 0, B := 0, O := 0, C := 0, N := 0 } : In) := by simp [decI, hd]
      rw [hd, hi]
      clear hd hi hu
      obtain ⟨y, hy⟩ : ∃ y, packV ({ F := 1, U := fldI x 29 1 == 1, V := fldI x 28 1 == 1, A := fldI x 24 4, B := fldI x 20 4, O := fldI x 16 4, C := 0, N := fldI x 0 16 } : In) = y := ⟨_, rfl⟩
      rw [hy] at hp
      have LH : Hid (∀ w, Calls Tryz.prog 56 #[.agg ({ F := 1, U := fldI x 29 1 == 1, V := fldI x 28 1 == 1, A := fldI x 24 4, B := fldI x 20 4, O := fldI x 16 4, C := 0, N := fldI x 0 16 } : In).cells] w fun e w' => e = .returned (.int .u32 y) ∧ Below w.heap.size w w') := fun w => by
        have hk := laid_any ({ F := 1, U := fldI x 29 1 == 1, V := fldI x 28 1 == 1, A := fldI x 24 4, B := fldI x 20 4, O := fldI x 16 4, C := 0, N := fldI x 0 16 } : In) w HR
        rwa [hy] at hk
      have hne : (y != x) = true := by simp [bne, hp]
      clear hy HR hp
      go_enter Tryz.func23, Tryz.ntmps23
      go_wp2_with (first | (go_at_call 53; refine (rfield_at _ _ _ _ h0 h1 (by omega) (by omega) (by omega) (by omega)).mono ?_; rintro e w' ⟨rfl, n, rfl⟩) | (go_at_call 55; refine (rright_any ({ F := 1, U := fldI x 29 1 == 1, V := fldI x 28 1 == 1, A := fldI x 24 4, B := fldI x 20 4, O := fldI x 16 4, C := 0, N := fldI x 0 16 } : In) _).mono ?_; rw [hr]; rintro e w1 ⟨rfl, hb⟩; have HK : Hid (Keeps w [(w.heap.size + 1, ({ F := 1, U := fldI x 29 1 == 1, V := fldI x 28 1 == 1, A := fldI x 24 4, B := fldI x 20 4, O := fldI x 16 4, C := 0, N := fldI x 0 16 } : In).cells), (w.heap.size, ({ F := 0, U := false, V := false, A := 0, B := 0, O := 0, C := 0, N := 0 } : In).cells)] w1) := Keeps.call hb (Keeps.drewN (keeps2 w _ _ _ _) _); have r1 : roomAt w1 w.heap.size 8 = true := HK.out.room (b := w.heap.size) (c := ({ F := 0, U := false, V := false, A := 0, B := 0, O := 0, C := 0, N := 0 } : In).cells) (by simp); have q1 := HK.out.row (b := w.heap.size + 1) (c := ({ F := 1, U := fldI x 29 1 == 1, V := fldI x 28 1 == 1, A := fldI x 24 4, B := fldI x 20 4, O := fldI x 16 4, C := 0, N := fldI x 0 16 } : In).cells) (by simp)) | (go_at_call 56; refine (LH.out _).mono ?_; rintro e w2 ⟨rfl, hb2⟩; have HK2 : Hid (Keeps w [(w.heap.size + 1, ({ F := 1, U := fldI x 29 1 == 1, V := fldI x 28 1 == 1, A := fldI x 24 4, B := fldI x 20 4, O := fldI x 16 4, C := 0, N := fldI x 0 16 } : In).cells), (w.heap.size, ({ F := 0, U := false, V := false, A := 0, B := 0, O := 0, C := 0, N := 0 } : In).cells)] w2) := HK.out.call hb2; have r2 : roomAt w2 w.heap.size 8 = true := HK2.out.room (b := w.heap.size) (c := ({ F := 0, U := false, V := false, A := 0, B := 0, O := 0, C := 0, N := 0 } : In).cells) (by simp); have q2 := HK2.out.row (b := w.heap.size + 1) (c := ({ F := 1, U := fldI x 29 1 == 1, V := fldI x 28 1 == 1, A := fldI x 24 4, B := fldI x 20 4, O := fldI x 16 4, C := 0, N := fldI x 0 16 } : In).cells) (by simp)))
      exact ret_cell_tmp rfl rfl (loadIn_row (rowIn_put _ _ _ r2)) rfl ⟨rfl, below_put HK2.out.1 _ (Nat.le_refl _) _⟩
    · have hd : decOk x = true := by simp [decOk, hu, hr, hp]
      have hi : decI x = ({ F := 1, U := fldI x 29 1 == 1, V := fldI x 28 1 == 1, A := fldI x 24 4, B := fldI x 20 4, O := fldI x 16 4, C := 0, N := fldI x 0 16 } : In) := by simp [decI, hd, hu]
      rw [hd, hi]
      clear hd hi hu
      have LH : Hid (∀ w, Calls Tryz.prog 56 #[.agg ({ F := 1, U := fldI x 29 1 == 1, V := fldI x 28 1 == 1, A := fldI x 24 4, B := fldI x 20 4, O := fldI x 16 4, C := 0, N := fldI x 0 16 } : In).cells] w fun e w' => e = .returned (.int .u32 x) ∧ Below w.heap.size w w') := fun w => by
        have hk := laid_any ({ F := 1, U := fldI x 29 1 == 1, V := fldI x 28 1 == 1, A := fldI x 24 4, B := fldI x 20 4, O := fldI x 16 4, C := 0, N := fldI x 0 16 } : In) w HR
        rwa [beq_iff_eq.1 hp] at hk
      clear HR hp
      go_enter Tryz.func23, Tryz.ntmps23
      go_wp2_with (first | (go_at_call 53; refine (rfield_at _ _ _ _ h0 h1 (by omega) (by omega) (by omega) (by omega)).mono ?_; rintro e w' ⟨rfl, n, rfl⟩) | (go_at_call 55; refine (rright_any ({ F := 1, U := fldI x 29 1 == 1, V := fldI x 28 1 == 1, A := fldI x 24 4, B := fldI x 20 4, O := fldI x 16 4, C := 0, N := fldI x 0 16 } : In) _).mono ?_; rw [hr]; rintro e w1 ⟨rfl, hb⟩; have HK : Hid (Keeps w [(w.heap.size + 1, ({ F := 1, U := fldI x 29 1 == 1, V := fldI x 28 1 == 1, A := fldI x 24 4, B := fldI x 20 4, O := fldI x 16 4, C := 0, N := fldI x 0 16 } : In).cells), (w.heap.size, ({ F := 0, U := false, V := false, A := 0, B := 0, O := 0, C := 0, N := 0 } : In).cells)] w1) := Keeps.call hb (Keeps.drewN (keeps2 w _ _ _ _) _); have r1 : roomAt w1 w.heap.size 8 = true := HK.out.room (b := w.heap.size) (c := ({ F := 0, U := false, V := false, A := 0, B := 0, O := 0, C := 0, N := 0 } : In).cells) (by simp); have q1 := HK.out.row (b := w.heap.size + 1) (c := ({ F := 1, U := fldI x 29 1 == 1, V := fldI x 28 1 == 1, A := fldI x 24 4, B := fldI x 20 4, O := fldI x 16 4, C := 0, N := fldI x 0 16 } : In).cells) (by simp)) | (go_at_call 56; refine (LH.out _).mono ?_; rintro e w2 ⟨rfl, hb2⟩; have HK2 : Hid (Keeps w [(w.heap.size + 1, ({ F := 1, U := fldI x 29 1 == 1, V := fldI x 28 1 == 1, A := fldI x 24 4, B := fldI x 20 4, O := fldI x 16 4, C := 0, N := fldI x 0 16 } : In).cells), (w.heap.size, ({ F := 0, U := false, V := false, A := 0, B := 0, O := 0, C := 0, N := 0 } : In).cells)] w2) := HK.out.call hb2; have r2 : roomAt w2 w.heap.size 8 = true := HK2.out.room (b := w.heap.size) (c := ({ F := 0, U := false, V := false, A := 0, B := 0, O := 0, C := 0, N := 0 } : In).cells) (by simp); have q2 := HK2.out.row (b := w.heap.size + 1) (c := ({ F := 1, U := fldI x 29 1 == 1, V := fldI x 28 1 == 1, A := fldI x 24 4, B := fldI x 20 4, O := fldI x 16 4, C := 0, N := fldI x 0 16 } : In).cells) (by simp)))
      exact ret_cell_tmp rfl rfl (loadIn_row (rowIn_put _ _ _ r2)) rfl ⟨rfl, below_put HK2.out.1 _ (Nat.le_refl _) _⟩
set_option maxHeartbeats 1000000 in
theorem rdecode_2 (x : Int) (w : World) (h0 : 0 ≤ x) (h1 : x ≤ 4294967295) (hF : fldI x 30 2 = 2) : Calls Tryz.prog 23 #[.int .u32 x] w fun e w' => e = .returned (.tuple #[.agg (decI x).cells, .bool (decOk x)]) ∧ Below w.heap.size w w' := by
  have hu : unpackI x = ({ F := 2, U := fldI x 29 1 == 1, V := fldI x 28 1 == 1, A := fldI x 24 4, B := fldI x 20 4, O := 0, C := 0, N := sext x 20 } : In) := by simp [unpackI, hF]
  have b20 : 0 ≤ fldI x 0 20 ∧ fldI x 0 20 < 1048576 := fldI_bd x 0 20
  have b24 : 0 ≤ fldI x 0 24 ∧ fldI x 0 24 < 16777216 := fldI_bd x 0 24
  have f20 := sx_fld20 x
  have f24 := sx_fld24 x
  cases hr : rightB ({ F := 2, U := fldI x 29 1 == 1, V := fldI x 28 1 == 1, A := fldI x 24 4, B := fldI x 20 4, O := 0, C := 0, N := sext x 20 } : In)
  · have hd : decOk x = false := by simp [decOk, hu, hr]
    have hi : decI x = ({ F := 0, U := false, V := false, A := 0, B := 0, O := 0, C := 0, N := 0 } : In) := by simp [decI, hd]
    rw [hd, hi]
    clear hd hi hu
    go_enter Tryz.func23, Tryz.ntmps23
    go_wp2_with (first | (go_at_call 53; refine (rfield_at _ _ _ _ h0 h1 (by omega) (by omega) (by omega) (by omega)).mono ?_; rintro e w' ⟨rfl, n, rfl⟩) | (go_at_call 54; refine (rsext20_any _ _ b20.1 b20.2).mono ?_; rintro e w' ⟨rfl, hx⟩; obtain rfl := hx.symm; clear hx) | (go_at_call 55; refine (rright_any ({ F := 2, U := fldI x 29 1 == 1, V := fldI x 28 1 == 1, A := fldI x 24 4, B := fldI x 20 4, O := 0, C := 0, N := sext x 20 } : In) _).mono ?_; rw [hr]; rintro e w1 ⟨rfl, hb⟩; have HK : Hid (Keeps w [(w.heap.size + 1, ({ F := 2, U := fldI x 29 1 == 1, V := fldI x 28 1 == 1, A := fldI x 24 4, B := fldI x 20 4, O := 0, C := 0, N := sext x 20 } : In).cells), (w.heap.size, ({ F := 0, U := false, V := false, A := 0, B := 0, O := 0, C := 0, N := 0 } : In).cells)] w1) := Keeps.call hb (Keeps.drewN (keeps2 w _ _ _ _) _); have r1 : roomAt w1 w.heap.size 8 = true := HK.out.room (b := w.heap.size) (c := ({ F := 0, U := false, V := false, A := 0, B := 0, O := 0, C := 0, N := 0 } : In).cells) (by simp); have q1 := HK.out.row (b := w.heap.size + 1) (c := ({ F := 2, U := fldI x 29 1 == 1, V := fldI x 28 1 == 1, A := fldI x 24 4, B := fldI x 20 4, O := 0, C := 0, N := sext x 20 } : In).cells) (by simp)))
    exact ret_cell_tmp rfl rfl (loadIn_row (rowIn_put _ _ _ r1)) rfl ⟨rfl, below_put HK.out.1 _ (Nat.le_refl _) _⟩
  · have HR := right_bd hr
    cases hp : packV ({ F := 2, U := fldI x 29 1 == 1, V := fldI x 28 1 == 1, A := fldI x 24 4, B := fldI x 20 4, O := 0, C := 0, N := sext x 20 } : In) == x
    · have hd : decOk x = false := by simp [decOk, hu, hr, hp]
      have hi : decI x = ({ F := 0, U := false, V := false, A := 0, B := 0, O := 0, C := 0, N := 0 } : In) := by simp [decI, hd]
      rw [hd, hi]
      clear hd hi hu
      obtain ⟨y, hy⟩ : ∃ y, packV ({ F := 2, U := fldI x 29 1 == 1, V := fldI x 28 1 == 1, A := fldI x 24 4, B := fldI x 20 4, O := 0, C := 0, N := sext x 20 } : In) = y := ⟨_, rfl⟩
      rw [hy] at hp
      have LH : Hid (∀ w, Calls Tryz.prog 56 #[.agg ({ F := 2, U := fldI x 29 1 == 1, V := fldI x 28 1 == 1, A := fldI x 24 4, B := fldI x 20 4, O := 0, C := 0, N := sext x 20 } : In).cells] w fun e w' => e = .returned (.int .u32 y) ∧ Below w.heap.size w w') := fun w => by
        have hk := laid_any ({ F := 2, U := fldI x 29 1 == 1, V := fldI x 28 1 == 1, A := fldI x 24 4, B := fldI x 20 4, O := 0, C := 0, N := sext x 20 } : In) w HR
        rwa [hy] at hk
      have hne : (y != x) = true := by simp [bne, hp]
      clear hy HR hp
      go_enter Tryz.func23, Tryz.ntmps23
      go_wp2_with (first | (go_at_call 53; refine (rfield_at _ _ _ _ h0 h1 (by omega) (by omega) (by omega) (by omega)).mono ?_; rintro e w' ⟨rfl, n, rfl⟩) | (go_at_call 54; refine (rsext20_any _ _ b20.1 b20.2).mono ?_; rintro e w' ⟨rfl, hx⟩; obtain rfl := hx.symm; clear hx) | (go_at_call 55; refine (rright_any ({ F := 2, U := fldI x 29 1 == 1, V := fldI x 28 1 == 1, A := fldI x 24 4, B := fldI x 20 4, O := 0, C := 0, N := sext x 20 } : In) _).mono ?_; rw [hr]; rintro e w1 ⟨rfl, hb⟩; have HK : Hid (Keeps w [(w.heap.size + 1, ({ F := 2, U := fldI x 29 1 == 1, V := fldI x 28 1 == 1, A := fldI x 24 4, B := fldI x 20 4, O := 0, C := 0, N := sext x 20 } : In).cells), (w.heap.size, ({ F := 0, U := false, V := false, A := 0, B := 0, O := 0, C := 0, N := 0 } : In).cells)] w1) := Keeps.call hb (Keeps.drewN (keeps2 w _ _ _ _) _); have r1 : roomAt w1 w.heap.size 8 = true := HK.out.room (b := w.heap.size) (c := ({ F := 0, U := false, V := false, A := 0, B := 0, O := 0, C := 0, N := 0 } : In).cells) (by simp); have q1 := HK.out.row (b := w.heap.size + 1) (c := ({ F := 2, U := fldI x 29 1 == 1, V := fldI x 28 1 == 1, A := fldI x 24 4, B := fldI x 20 4, O := 0, C := 0, N := sext x 20 } : In).cells) (by simp)) | (go_at_call 56; refine (LH.out _).mono ?_; rintro e w2 ⟨rfl, hb2⟩; have HK2 : Hid (Keeps w [(w.heap.size + 1, ({ F := 2, U := fldI x 29 1 == 1, V := fldI x 28 1 == 1, A := fldI x 24 4, B := fldI x 20 4, O := 0, C := 0, N := sext x 20 } : In).cells), (w.heap.size, ({ F := 0, U := false, V := false, A := 0, B := 0, O := 0, C := 0, N := 0 } : In).cells)] w2) := HK.out.call hb2; have r2 : roomAt w2 w.heap.size 8 = true := HK2.out.room (b := w.heap.size) (c := ({ F := 0, U := false, V := false, A := 0, B := 0, O := 0, C := 0, N := 0 } : In).cells) (by simp); have q2 := HK2.out.row (b := w.heap.size + 1) (c := ({ F := 2, U := fldI x 29 1 == 1, V := fldI x 28 1 == 1, A := fldI x 24 4, B := fldI x 20 4, O := 0, C := 0, N := sext x 20 } : In).cells) (by simp)))
      exact ret_cell_tmp rfl rfl (loadIn_row (rowIn_put _ _ _ r2)) rfl ⟨rfl, below_put HK2.out.1 _ (Nat.le_refl _) _⟩
    · have hd : decOk x = true := by simp [decOk, hu, hr, hp]
      have hi : decI x = ({ F := 2, U := fldI x 29 1 == 1, V := fldI x 28 1 == 1, A := fldI x 24 4, B := fldI x 20 4, O := 0, C := 0, N := sext x 20 } : In) := by simp [decI, hd, hu]
      rw [hd, hi]
      clear hd hi hu
      have LH : Hid (∀ w, Calls Tryz.prog 56 #[.agg ({ F := 2, U := fldI x 29 1 == 1, V := fldI x 28 1 == 1, A := fldI x 24 4, B := fldI x 20 4, O := 0, C := 0, N := sext x 20 } : In).cells] w fun e w' => e = .returned (.int .u32 x) ∧ Below w.heap.size w w') := fun w => by
        have hk := laid_any ({ F := 2, U := fldI x 29 1 == 1, V := fldI x 28 1 == 1, A := fldI x 24 4, B := fldI x 20 4, O := 0, C := 0, N := sext x 20 } : In) w HR
        rwa [beq_iff_eq.1 hp] at hk
      clear HR hp
      go_enter Tryz.func23, Tryz.ntmps23
      go_wp2_with (first | (go_at_call 53; refine (rfield_at _ _ _ _ h0 h1 (by omega) (by omega) (by omega) (by omega)).mono ?_; rintro e w' ⟨rfl, n, rfl⟩) | (go_at_call 54; refine (rsext20_any _ _ b20.1 b20.2).mono ?_; rintro e w' ⟨rfl, hx⟩; obtain rfl := hx.symm; clear hx) | (go_at_call 55; refine (rright_any ({ F := 2, U := fldI x 29 1 == 1, V := fldI x 28 1 == 1, A := fldI x 24 4, B := fldI x 20 4, O := 0, C := 0, N := sext x 20 } : In) _).mono ?_; rw [hr]; rintro e w1 ⟨rfl, hb⟩; have HK : Hid (Keeps w [(w.heap.size + 1, ({ F := 2, U := fldI x 29 1 == 1, V := fldI x 28 1 == 1, A := fldI x 24 4, B := fldI x 20 4, O := 0, C := 0, N := sext x 20 } : In).cells), (w.heap.size, ({ F := 0, U := false, V := false, A := 0, B := 0, O := 0, C := 0, N := 0 } : In).cells)] w1) := Keeps.call hb (Keeps.drewN (keeps2 w _ _ _ _) _); have r1 : roomAt w1 w.heap.size 8 = true := HK.out.room (b := w.heap.size) (c := ({ F := 0, U := false, V := false, A := 0, B := 0, O := 0, C := 0, N := 0 } : In).cells) (by simp); have q1 := HK.out.row (b := w.heap.size + 1) (c := ({ F := 2, U := fldI x 29 1 == 1, V := fldI x 28 1 == 1, A := fldI x 24 4, B := fldI x 20 4, O := 0, C := 0, N := sext x 20 } : In).cells) (by simp)) | (go_at_call 56; refine (LH.out _).mono ?_; rintro e w2 ⟨rfl, hb2⟩; have HK2 : Hid (Keeps w [(w.heap.size + 1, ({ F := 2, U := fldI x 29 1 == 1, V := fldI x 28 1 == 1, A := fldI x 24 4, B := fldI x 20 4, O := 0, C := 0, N := sext x 20 } : In).cells), (w.heap.size, ({ F := 0, U := false, V := false, A := 0, B := 0, O := 0, C := 0, N := 0 } : In).cells)] w2) := HK.out.call hb2; have r2 : roomAt w2 w.heap.size 8 = true := HK2.out.room (b := w.heap.size) (c := ({ F := 0, U := false, V := false, A := 0, B := 0, O := 0, C := 0, N := 0 } : In).cells) (by simp); have q2 := HK2.out.row (b := w.heap.size + 1) (c := ({ F := 2, U := fldI x 29 1 == 1, V := fldI x 28 1 == 1, A := fldI x 24 4, B := fldI x 20 4, O := 0, C := 0, N := sext x 20 } : In).cells) (by simp)))
      exact ret_cell_tmp rfl rfl (loadIn_row (rowIn_put _ _ _ r2)) rfl ⟨rfl, below_put HK2.out.1 _ (Nat.le_refl _) _⟩
set_option maxHeartbeats 1000000 in
theorem rdecode_3f (x : Int) (w : World) (h0 : 0 ≤ x) (h1 : x ≤ 4294967295) (hF : fldI x 30 2 = 3) (hU : (fldI x 29 1 == 1) = false) : Calls Tryz.prog 23 #[.int .u32 x] w fun e w' => e = .returned (.tuple #[.agg (decI x).cells, .bool (decOk x)]) ∧ Below w.heap.size w w' := by
  have hu : unpackI x = ({ F := 3, U := false, V := fldI x 28 1 == 1, A := fldI x 24 4, B := 0, O := 0, C := fldI x 0 4, N := 0 } : In) := by simp [unpackI, hF, hU]
  have b20 : 0 ≤ fldI x 0 20 ∧ fldI x 0 20 < 1048576 := fldI_bd x 0 20
  have b24 : 0 ≤ fldI x 0 24 ∧ fldI x 0 24 < 16777216 := fldI_bd x 0 24
  have f20 := sx_fld20 x
  have f24 := sx_fld24 x
  cases hr : rightB ({ F := 3, U := false, V := fldI x 28 1 == 1, A := fldI x 24 4, B := 0, O := 0, C := fldI x 0 4, N := 0 } : In)
  · have hd : decOk x = false := by simp [decOk, hu, hr]
    have hi : decI x = ({ F := 0, U := false, V := false, A := 0, B := 0, O := 0, C := 0, N := 0 } : In) := by simp [decI, hd]
    rw [hd, hi]
    clear hd hi hu
    go_enter Tryz.func23, Tryz.ntmps23
    go_wp2_with (first | (go_at_call 53; refine (rfield_at _ _ _ _ h0 h1 (by omega) (by omega) (by omega) (by omega)).mono ?_; rintro e w' ⟨rfl, n, rfl⟩) | (go_at_call 55; refine (rright_any ({ F := 3, U := false, V := fldI x 28 1 == 1, A := fldI x 24 4, B := 0, O := 0, C := fldI x 0 4, N := 0 } : In) _).mono ?_; rw [hr]; rintro e w1 ⟨rfl, hb⟩; have HK : Hid (Keeps w [(w.heap.size + 1, ({ F := 3, U := false, V := fldI x 28 1 == 1, A := fldI x 24 4, B := 0, O := 0, C := fldI x 0 4, N := 0 } : In).cells), (w.heap.size, ({ F := 0, U := false, V := false, A := 0, B := 0, O := 0, C := 0, N := 0 } : In).cells)] w1) := Keeps.call hb (Keeps.drewN (keeps2 w _ _ _ _) _); have r1 : roomAt w1 w.heap.size 8 = true := HK.out.room (b := w.heap.size) (c := ({ F := 0, U := false, V := false, A := 0, B := 0, O := 0, C := 0, N := 0 } : In).cells) (by simp); have q1 := HK.out.row (b := w.heap.size + 1) (c := ({ F := 3, U := false, V := fldI x 28 1 == 1, A := fldI x 24 4, B := 0, O := 0, C := fldI x 0 4, N := 0 } : In).cells) (by simp)))
    exact ret_cell_tmp rfl rfl (loadIn_row (rowIn_put _ _ _ r1)) rfl ⟨rfl, below_put HK.out.1 _ (Nat.le_refl _) _⟩
  · have HR := right_bd hr
    cases hp : packV ({ F := 3, U := false, V := fldI x 28 1 == 1, A := fldI x 24 4, B := 0, O := 0, C := fldI x 0 4, N := 0 } : In) == x
    · have hd : decOk x = false := by simp [decOk, hu, hr, hp]
      have hi : decI x = ({ F := 0, U := false, V := false, A := 0, B := 0, O := 0, C := 0, N := 0 } : In) := by simp [decI, hd]
      rw [hd, hi]
      clear hd hi hu
      obtain ⟨y, hy⟩ : ∃ y, packV ({ F := 3, U := false, V := fldI x 28 1 == 1, A := fldI x 24 4, B := 0, O := 0, C := fldI x 0 4, N := 0 } : In) = y := ⟨_, rfl⟩
      rw [hy] at hp
      have LH : Hid (∀ w, Calls Tryz.prog 56 #[.agg ({ F := 3, U := false, V := fldI x 28 1 == 1, A := fldI x 24 4, B := 0, O := 0, C := fldI x 0 4, N := 0 } : In).cells] w fun e w' => e = .returned (.int .u32 y) ∧ Below w.heap.size w w') := fun w => by
        have hk := laid_any ({ F := 3, U := false, V := fldI x 28 1 == 1, A := fldI x 24 4, B := 0, O := 0, C := fldI x 0 4, N := 0 } : In) w HR
        rwa [hy] at hk
      have hne : (y != x) = true := by simp [bne, hp]
      clear hy HR hp
      go_enter Tryz.func23, Tryz.ntmps23
      go_wp2_with (first | (go_at_call 53; refine (rfield_at _ _ _ _ h0 h1 (by omega) (by omega) (by omega) (by omega)).mono ?_; rintro e w' ⟨rfl, n, rfl⟩) | (go_at_call 55; refine (rright_any ({ F := 3, U := false, V := fldI x 28 1 == 1, A := fldI x 24 4, B := 0, O := 0, C := fldI x 0 4, N := 0 } : In) _).mono ?_; rw [hr]; rintro e w1 ⟨rfl, hb⟩; have HK : Hid (Keeps w [(w.heap.size + 1, ({ F := 3, U := false, V := fldI x 28 1 == 1, A := fldI x 24 4, B := 0, O := 0, C := fldI x 0 4, N := 0 } : In).cells), (w.heap.size, ({ F := 0, U := false, V := false, A := 0, B := 0, O := 0, C := 0, N := 0 } : In).cells)] w1) := Keeps.call hb (Keeps.drewN (keeps2 w _ _ _ _) _); have r1 : roomAt w1 w.heap.size 8 = true := HK.out.room (b := w.heap.size) (c := ({ F := 0, U := false, V := false, A := 0, B := 0, O := 0, C := 0, N := 0 } : In).cells) (by simp); have q1 := HK.out.row (b := w.heap.size + 1) (c := ({ F := 3, U := false, V := fldI x 28 1 == 1, A := fldI x 24 4, B := 0, O := 0, C := fldI x 0 4, N := 0 } : In).cells) (by simp)) | (go_at_call 56; refine (LH.out _).mono ?_; rintro e w2 ⟨rfl, hb2⟩; have HK2 : Hid (Keeps w [(w.heap.size + 1, ({ F := 3, U := false, V := fldI x 28 1 == 1, A := fldI x 24 4, B := 0, O := 0, C := fldI x 0 4, N := 0 } : In).cells), (w.heap.size, ({ F := 0, U := false, V := false, A := 0, B := 0, O := 0, C := 0, N := 0 } : In).cells)] w2) := HK.out.call hb2; have r2 : roomAt w2 w.heap.size 8 = true := HK2.out.room (b := w.heap.size) (c := ({ F := 0, U := false, V := false, A := 0, B := 0, O := 0, C := 0, N := 0 } : In).cells) (by simp); have q2 := HK2.out.row (b := w.heap.size + 1) (c := ({ F := 3, U := false, V := fldI x 28 1 == 1, A := fldI x 24 4, B := 0, O := 0, C := fldI x 0 4, N := 0 } : In).cells) (by simp)))
      exact ret_cell_tmp rfl rfl (loadIn_row (rowIn_put _ _ _ r2)) rfl ⟨rfl, below_put HK2.out.1 _ (Nat.le_refl _) _⟩
    · have hd : decOk x = true := by simp [decOk, hu, hr, hp]
      have hi : decI x = ({ F := 3, U := false, V := fldI x 28 1 == 1, A := fldI x 24 4, B := 0, O := 0, C := fldI x 0 4, N := 0 } : In) := by simp [decI, hd, hu]
      rw [hd, hi]
      clear hd hi hu
      have LH : Hid (∀ w, Calls Tryz.prog 56 #[.agg ({ F := 3, U := false, V := fldI x 28 1 == 1, A := fldI x 24 4, B := 0, O := 0, C := fldI x 0 4, N := 0 } : In).cells] w fun e w' => e = .returned (.int .u32 x) ∧ Below w.heap.size w w') := fun w => by
        have hk := laid_any ({ F := 3, U := false, V := fldI x 28 1 == 1, A := fldI x 24 4, B := 0, O := 0, C := fldI x 0 4, N := 0 } : In) w HR
        rwa [beq_iff_eq.1 hp] at hk
      clear HR hp
      go_enter Tryz.func23, Tryz.ntmps23
      go_wp2_with (first | (go_at_call 53; refine (rfield_at _ _ _ _ h0 h1 (by omega) (by omega) (by omega) (by omega)).mono ?_; rintro e w' ⟨rfl, n, rfl⟩) | (go_at_call 55; refine (rright_any ({ F := 3, U := false, V := fldI x 28 1 == 1, A := fldI x 24 4, B := 0, O := 0, C := fldI x 0 4, N := 0 } : In) _).mono ?_; rw [hr]; rintro e w1 ⟨rfl, hb⟩; have HK : Hid (Keeps w [(w.heap.size + 1, ({ F := 3, U := false, V := fldI x 28 1 == 1, A := fldI x 24 4, B := 0, O := 0, C := fldI x 0 4, N := 0 } : In).cells), (w.heap.size, ({ F := 0, U := false, V := false, A := 0, B := 0, O := 0, C := 0, N := 0 } : In).cells)] w1) := Keeps.call hb (Keeps.drewN (keeps2 w _ _ _ _) _); have r1 : roomAt w1 w.heap.size 8 = true := HK.out.room (b := w.heap.size) (c := ({ F := 0, U := false, V := false, A := 0, B := 0, O := 0, C := 0, N := 0 } : In).cells) (by simp); have q1 := HK.out.row (b := w.heap.size + 1) (c := ({ F := 3, U := false, V := fldI x 28 1 == 1, A := fldI x 24 4, B := 0, O := 0, C := fldI x 0 4, N := 0 } : In).cells) (by simp)) | (go_at_call 56; refine (LH.out _).mono ?_; rintro e w2 ⟨rfl, hb2⟩; have HK2 : Hid (Keeps w [(w.heap.size + 1, ({ F := 3, U := false, V := fldI x 28 1 == 1, A := fldI x 24 4, B := 0, O := 0, C := fldI x 0 4, N := 0 } : In).cells), (w.heap.size, ({ F := 0, U := false, V := false, A := 0, B := 0, O := 0, C := 0, N := 0 } : In).cells)] w2) := HK.out.call hb2; have r2 : roomAt w2 w.heap.size 8 = true := HK2.out.room (b := w.heap.size) (c := ({ F := 0, U := false, V := false, A := 0, B := 0, O := 0, C := 0, N := 0 } : In).cells) (by simp); have q2 := HK2.out.row (b := w.heap.size + 1) (c := ({ F := 3, U := false, V := fldI x 28 1 == 1, A := fldI x 24 4, B := 0, O := 0, C := fldI x 0 4, N := 0 } : In).cells) (by simp)))
      exact ret_cell_tmp rfl rfl (loadIn_row (rowIn_put _ _ _ r2)) rfl ⟨rfl, below_put HK2.out.1 _ (Nat.le_refl _) _⟩
set_option maxHeartbeats 1000000 in
theorem rdecode_3t (x : Int) (w : World) (h0 : 0 ≤ x) (h1 : x ≤ 4294967295) (hF : fldI x 30 2 = 3) (hU : (fldI x 29 1 == 1) = true) : Calls Tryz.prog 23 #[.int .u32 x] w fun e w' => e = .returned (.tuple #[.agg (decI x).cells, .bool (decOk x)]) ∧ Below w.heap.size w w' := by
  have hu : unpackI x = ({ F := 3, U := true, V := fldI x 28 1 == 1, A := fldI x 24 4, B := 0, O := 0, C := 0, N := sext x 24 } : In) := by simp [unpackI, hF, hU]
  have b20 : 0 ≤ fldI x 0 20 ∧ fldI x 0 20 < 1048576 := fldI_bd x 0 20
  have b24 : 0 ≤ fldI x 0 24 ∧ fldI x 0 24 < 16777216 := fldI_bd x 0 24
  have f20 := sx_fld20 x
  have f24 := sx_fld24 x
  cases hr : rightB ({ F := 3, U := true, V := fldI x 28 1 == 1, A := fldI x 24 4, B := 0, O := 0, C := 0, N := sext x 24 } : In)
  · have hd : decOk x = false := by simp [decOk, hu, hr]
    have hi : decI x = ({ F := 0, U := false, V := false, A := 0, B := 0, O := 0, C := 0, N := 0 } : In) := by simp [decI, hd]
    rw [hd, hi]
    clear hd hi hu
    go_enter Tryz.func23, Tryz.ntmps23
    go_wp2_with (first | (go_at_call 53; refine (rfield_at _ _ _ _ h0 h1 (by omega) (by omega) (by omega) (by omega)).mono ?_; rintro e w' ⟨rfl, n, rfl⟩) | (go_at_call 54; refine (rsext24_any _ _ b24.1 b24.2).mono ?_; rintro e w' ⟨rfl, hx⟩; obtain rfl := hx.symm; clear hx) | (go_at_call 55; refine (rright_any ({ F := 3, U := true, V := fldI x 28 1 == 1, A := fldI x 24 4, B := 0, O := 0, C := 0, N := sext x 24 } : In) _).mono ?_; rw [hr]; rintro e w1 ⟨rfl, hb⟩; have HK : Hid (Keeps w [(w.heap.size + 1, ({ F := 3, U := true, V := fldI x 28 1 == 1, A := fldI x 24 4, B := 0, O := 0, C := 0, N := sext x 24 } : In).cells), (w.heap.size, ({ F := 0, U := false, V := false, A := 0, B := 0, O := 0, C := 0, N := 0 } : In).cells)] w1) := Keeps.call hb (Keeps.drewN (keeps2 w _ _ _ _) _); have r1 : roomAt w1 w.heap.size 8 = true := HK.out.room (b := w.heap.size) (c := ({ F := 0, U := false, V := false, A := 0, B := 0, O := 0, C := 0, N := 0 } : In).cells) (by simp); have q1 := HK.out.row (b := w.heap.size + 1) (c := ({ F := 3, U := true, V := fldI x 28 1 == 1, A := fldI x 24 4, B := 0, O := 0, C := 0, N := sext x 24 } : In).cells) (by simp)))
    exact ret_cell_tmp rfl rfl (loadIn_row (rowIn_put _ _ _ r1)) rfl ⟨rfl, below_put HK.out.1 _ (Nat.le_refl _) _⟩
  · have HR := right_bd hr
    cases hp : packV ({ F := 3, U := true, V := fldI x 28 1 == 1, A := fldI x 24 4, B := 0, O := 0, C := 0, N := sext x 24 } : In) == x
    · have hd : decOk x = false := by simp [decOk, hu, hr, hp]
      have hi : decI x = ({ F := 0, U := false, V := false, A := 0, B := 0, O := 0, C := 0, N := 0 } : In) := by simp [decI, hd]
      rw [hd, hi]
      clear hd hi hu
      obtain ⟨y, hy⟩ : ∃ y, packV ({ F := 3, U := true, V := fldI x 28 1 == 1, A := fldI x 24 4, B := 0, O := 0, C := 0, N := sext x 24 } : In) = y := ⟨_, rfl⟩
      rw [hy] at hp
      have LH : Hid (∀ w, Calls Tryz.prog 56 #[.agg ({ F := 3, U := true, V := fldI x 28 1 == 1, A := fldI x 24 4, B := 0, O := 0, C := 0, N := sext x 24 } : In).cells] w fun e w' => e = .returned (.int .u32 y) ∧ Below w.heap.size w w') := fun w => by
        have hk := laid_any ({ F := 3, U := true, V := fldI x 28 1 == 1, A := fldI x 24 4, B := 0, O := 0, C := 0, N := sext x 24 } : In) w HR
        rwa [hy] at hk
      have hne : (y != x) = true := by simp [bne, hp]
      clear hy HR hp
      go_enter Tryz.func23, Tryz.ntmps23
      go_wp2_with (first | (go_at_call 53; refine (rfield_at _ _ _ _ h0 h1 (by omega) (by omega) (by omega) (by omega)).mono ?_; rintro e w' ⟨rfl, n, rfl⟩) | (go_at_call 54; refine (rsext24_any _ _ b24.1 b24.2).mono ?_; rintro e w' ⟨rfl, hx⟩; obtain rfl := hx.symm; clear hx) | (go_at_call 55; refine (rright_any ({ F := 3, U := true, V := fldI x 28 1 == 1, A := fldI x 24 4, B := 0, O := 0, C := 0, N := sext x 24 } : In) _).mono ?_; rw [hr]; rintro e w1 ⟨rfl, hb⟩; have HK : Hid (Keeps w [(w.heap.size + 1, ({ F := 3, U := true, V := fldI x 28 1 == 1, A := fldI x 24 4, B := 0, O := 0, C := 0, N := sext x 24 } : In).cells), (w.heap.size, ({ F := 0, U := false, V := false, A := 0, B := 0, O := 0, C := 0, N := 0 } : In).cells)] w1) := Keeps.call hb (Keeps.drewN (keeps2 w _ _ _ _) _); have r1 : roomAt w1 w.heap.size 8 = true := HK.out.room (b := w.heap.size) (c := ({ F := 0, U := false, V := false, A := 0, B := 0, O := 0, C := 0, N := 0 } : In).cells) (by simp); have q1 := HK.out.row (b := w.heap.size + 1) (c := ({ F := 3, U := true, V := fldI x 28 1 == 1, A := fldI x 24 4, B := 0, O := 0, C := 0, N := sext x 24 } : In).cells) (by simp)) | (go_at_call 56; refine (LH.out _).mono ?_; rintro e w2 ⟨rfl, hb2⟩; have HK2 : Hid (Keeps w [(w.heap.size + 1, ({ F := 3, U := true, V := fldI x 28 1 == 1, A := fldI x 24 4, B := 0, O := 0, C := 0, N := sext x 24 } : In).cells), (w.heap.size, ({ F := 0, U := false, V := false, A := 0, B := 0, O := 0, C := 0, N := 0 } : In).cells)] w2) := HK.out.call hb2; have r2 : roomAt w2 w.heap.size 8 = true := HK2.out.room (b := w.heap.size) (c := ({ F := 0, U := false, V := false, A := 0, B := 0, O := 0, C := 0, N := 0 } : In).cells) (by simp); have q2 := HK2.out.row (b := w.heap.size + 1) (c := ({ F := 3, U := true, V := fldI x 28 1 == 1, A := fldI x 24 4, B := 0, O := 0, C := 0, N := sext x 24 } : In).cells) (by simp)))
      exact ret_cell_tmp rfl rfl (loadIn_row (rowIn_put _ _ _ r2)) rfl ⟨rfl, below_put HK2.out.1 _ (Nat.le_refl _) _⟩
    · have hd : decOk x = true := by simp [decOk, hu, hr, hp]
      have hi : decI x = ({ F := 3, U := true, V := fldI x 28 1 == 1, A := fldI x 24 4, B := 0, O := 0, C := 0, N := sext x 24 } : In) := by simp [decI, hd, hu]
      rw [hd, hi]
      clear hd hi hu
      have LH : Hid (∀ w, Calls Tryz.prog 56 #[.agg ({ F := 3, U := true, V := fldI x 28 1 == 1, A := fldI x 24 4, B := 0, O := 0, C := 0, N := sext x 24 } : In).cells] w fun e w' => e = .returned (.int .u32 x) ∧ Below w.heap.size w w') := fun w => by
        have hk := laid_any ({ F := 3, U := true, V := fldI x 28 1 == 1, A := fldI x 24 4, B := 0, O := 0, C := 0, N := sext x 24 } : In) w HR
        rwa [beq_iff_eq.1 hp] at hk
      clear HR hp
      go_enter Tryz.func23, Tryz.ntmps23
      go_wp2_with (first | (go_at_call 53; refine (rfield_at _ _ _ _ h0 h1 (by omega) (by omega) (by omega) (by omega)).mono ?_; rintro e w' ⟨rfl, n, rfl⟩) | (go_at_call 54; refine (rsext24_any _ _ b24.1 b24.2).mono ?_; rintro e w' ⟨rfl, hx⟩; obtain rfl := hx.symm; clear hx) | (go_at_call 55; refine (rright_any ({ F := 3, U := true, V := fldI x 28 1 == 1, A := fldI x 24 4, B := 0, O := 0, C := 0, N := sext x 24 } : In) _).mono ?_; rw [hr]; rintro e w1 ⟨rfl, hb⟩; have HK : Hid (Keeps w [(w.heap.size + 1, ({ F := 3, U := true, V := fldI x 28 1 == 1, A := fldI x 24 4, B := 0, O := 0, C := 0, N := sext x 24 } : In).cells), (w.heap.size, ({ F := 0, U := false, V := false, A := 0, B := 0, O := 0, C := 0, N := 0 } : In).cells)] w1) := Keeps.call hb (Keeps.drewN (keeps2 w _ _ _ _) _); have r1 : roomAt w1 w.heap.size 8 = true := HK.out.room (b := w.heap.size) (c := ({ F := 0, U := false, V := false, A := 0, B := 0, O := 0, C := 0, N := 0 } : In).cells) (by simp); have q1 := HK.out.row (b := w.heap.size + 1) (c := ({ F := 3, U := true, V := fldI x 28 1 == 1, A := fldI x 24 4, B := 0, O := 0, C := 0, N := sext x 24 } : In).cells) (by simp)) | (go_at_call 56; refine (LH.out _).mono ?_; rintro e w2 ⟨rfl, hb2⟩; have HK2 : Hid (Keeps w [(w.heap.size + 1, ({ F := 3, U := true, V := fldI x 28 1 == 1, A := fldI x 24 4, B := 0, O := 0, C := 0, N := sext x 24 } : In).cells), (w.heap.size, ({ F := 0, U := false, V := false, A := 0, B := 0, O := 0, C := 0, N := 0 } : In).cells)] w2) := HK.out.call hb2; have r2 : roomAt w2 w.heap.size 8 = true := HK2.out.room (b := w.heap.size) (c := ({ F := 0, U := false, V := false, A := 0, B := 0, O := 0, C := 0, N := 0 } : In).cells) (by simp); have q2 := HK2.out.row (b := w.heap.size + 1) (c := ({ F := 3, U := true, V := fldI x 28 1 == 1, A := fldI x 24 4, B := 0, O := 0, C := 0, N := sext x 24 } : In).cells) (by simp)))
      exact ret_cell_tmp rfl rfl (loadIn_row (rowIn_put _ _ _ r2)) rfl ⟨rfl, below_put HK2.out.1 _ (Nat.le_refl _) _⟩
theorem rdecode_any (x : Int) (w : World) (h0 : 0 ≤ x) (h1 : x ≤ 4294967295) : Calls Tryz.prog 23 #[.int .u32 x] w fun e w' => e = .returned (.tuple #[.agg (decI x).cells, .bool (decOk x)]) ∧ Below w.heap.size w w' := by
  have b30 : 0 ≤ fldI x 30 2 ∧ fldI x 30 2 < 4 := fldI_bd x 30 2
  have hF : fldI x 30 2 = 0 ∨ fldI x 30 2 = 1 ∨ fldI x 30 2 = 2 ∨ fldI x 30 2 = 3 := by omega
  rcases hF with hF | hF | hF | hF
  · exact rdecode_0 x w h0 h1 hF
  · exact rdecode_1 x w h0 h1 hF
  · exact rdecode_2 x w h0 h1 hF
  · cases hU : (fldI x 29 1 == 1)
    · exact rdecode_3f x w h0 h1 hF hU
    · exact rdecode_3t x w h0 h1 hF hU
end Go.Proofs.YtkidfnhgknkpiaaGreatDoor
