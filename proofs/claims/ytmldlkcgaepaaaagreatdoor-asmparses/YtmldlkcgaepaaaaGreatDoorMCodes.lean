/-
  Contracts of Encode and Decode, the program's: each returns the same plain word or instruction, for every instruction and every word.
-/
import Derived.Test.YtmldlkcgaepaaaaGreatDoorMPacks
namespace Go.Proofs.YtmldlkcgaepaaaaGreatDoor
open Go.ChangeShapes Go.WideShapes Go.ChangeAt Go.RowKit
attribute [local go_sem ↓] loadIn_seal storeIn_seal
attribute [local go_sem] loadIn_run storeIn_run rowAt_at rowAt_old rowAt_drew rowAt_drewN roomCpu_new roomIn_new roomAt_old roomAt_drew roomAt_drewN putCpu_new putIn_new Cp.zero_fold In.fold putRow_past rowCpu_put rowIn_put size_put putRow_drew putRow_drewN alloc_drewN setCell_drewN Cp.at16 Cp.at17 Cp.at18 Cp.at19 Cp.at20 Cp.at21 Cp.size Cp.set16 Cp.set17 Cp.set18 Cp.set19 Cp.set20 Cp.set21 In.at0 In.at1 In.at2 In.at3 In.at4 In.at5 In.at6 In.at7 In.size In.set0 In.set1 In.set2 In.set3 In.ne Cp.ne In.set4 In.set5 In.set6 In.set7

def unpackI (x : Int) : In where
  F := fldI x 30 2
  U := fldI x 29 1 == 1
  V := fldI x 28 1 == 1
  A := fldI x 24 4
  B := if fldI x 30 2 = 3 then 0 else fldI x 20 4
  O := if fldI x 30 2 = 0 then fldI x 16 4 else if fldI x 30 2 = 1 then fldI x 16 4 else 0
  C := if fldI x 30 2 = 1 then 0 else if fldI x 30 2 = 2 then 0 else if fldI x 30 2 = 3 ∧ (fldI x 29 1 == 1) = true then 0 else fldI x 0 4
  N := if fldI x 30 2 = 1 then fldI x 0 16 else if fldI x 30 2 = 2 then sext x 20 else if fldI x 30 2 = 3 ∧ (fldI x 29 1 == 1) = true then sext x 24 else 0
set_option maxHeartbeats 1000000 in
theorem unpack_any (x : Int) (w : World) (h0 : 0 ≤ x) (h1 : x ≤ 4294967295) : Calls Tryz.prog 59 #[.int .u32 x] w fun e w' => e = .returned (.agg (unpackI x).cells) ∧ Below w.heap.size w w' := by
  have b30 := fldI_bd x 30 2
  have b24 := fldI_bd x 24 4
  have b20 := fldI_bd x 20 4
  have b16 := fldI_bd x 16 4
  have b0 := fldI_bd x 0 4
  have bn := fldI_bd x 0 16
  simp at b30 b24 b20 b16 b0 bn
  have hF : fldI x 30 2 = 0 ∨ fldI x 30 2 = 1 ∨ fldI x 30 2 = 2 ∨ fldI x 30 2 = 3 := by omega
  rcases hF with hF | hF | hF | hF
  · have hu : unpackI x = { F := 0, U := fldI x 29 1 == 1, V := fldI x 28 1 == 1, A := fldI x 24 4, B := fldI x 20 4, O := fldI x 16 4, C := fldI x 0 4, N := 0 } := by simp [unpackI, hF]
    have HU : Hid (_ = _) := hu
    clear hu
    go_enter Tryz.func59, Tryz.ntmps59
    go_wp2_with (first | (go_at_call 91; refine (field_at _ _ _ _ h0 h1 (by omega) (by omega) (by omega) (by omega)).mono ?_; rintro e w' ⟨rfl, n, rfl⟩) | (go_at_call 94; refine (sext_any _ _ _ h0 h1).mono ?_; rintro e w' ⟨rfl, hx⟩; obtain rfl := hx.symm; clear hx))
    all_goals refine ret_cell1 rfl rfl (loadIn_row (c := unpackI x) ?_) rfl ⟨rfl, ?_⟩
    all_goals first | (rw [HU.out]; simp [go_sem]; done) | (refine bdrewN ?_ _; go_grown) | go_grown
  · have hu : unpackI x = { F := 1, U := fldI x 29 1 == 1, V := fldI x 28 1 == 1, A := fldI x 24 4, B := fldI x 20 4, O := fldI x 16 4, C := 0, N := fldI x 0 16 } := by simp [unpackI, hF]
    have HU : Hid (_ = _) := hu
    clear hu
    go_enter Tryz.func59, Tryz.ntmps59
    go_wp2_with (first | (go_at_call 91; refine (field_at _ _ _ _ h0 h1 (by omega) (by omega) (by omega) (by omega)).mono ?_; rintro e w' ⟨rfl, n, rfl⟩) | (go_at_call 94; refine (sext_any _ _ _ h0 h1).mono ?_; rintro e w' ⟨rfl, hx⟩; obtain rfl := hx.symm; clear hx))
    all_goals refine ret_cell1 rfl rfl (loadIn_row (c := unpackI x) ?_) rfl ⟨rfl, ?_⟩
    all_goals first | (rw [HU.out]; simp [go_sem]; done) | (refine bdrewN ?_ _; go_grown) | go_grown
  · have hu : unpackI x = { F := 2, U := fldI x 29 1 == 1, V := fldI x 28 1 == 1, A := fldI x 24 4, B := fldI x 20 4, O := 0, C := 0, N := sext x 20 } := by simp [unpackI, hF]
    have HU : Hid (_ = _) := hu
    clear hu
    go_enter Tryz.func59, Tryz.ntmps59
    go_wp2_with (first | (go_at_call 91; refine (field_at _ _ _ _ h0 h1 (by omega) (by omega) (by omega) (by omega)).mono ?_; rintro e w' ⟨rfl, n, rfl⟩) | (go_at_call 94; refine (sext_any _ _ _ h0 h1).mono ?_; rintro e w' ⟨rfl, hx⟩; obtain rfl := hx.symm; clear hx))
    all_goals refine ret_cell1 rfl rfl (loadIn_row (c := unpackI x) ?_) rfl ⟨rfl, ?_⟩
    all_goals first | (rw [HU.out]; simp [go_sem]; done) | (refine bdrewN ?_ _; go_grown) | go_grown
  · cases hU : (fldI x 29 1 == 1)
    · have hu : unpackI x = { F := 3, U := false, V := fldI x 28 1 == 1, A := fldI x 24 4, B := 0, O := 0, C := fldI x 0 4, N := 0 } := by simp [unpackI, hF, hU]
      have HU : Hid (_ = _) := hu
      clear hu
      go_enter Tryz.func59, Tryz.ntmps59
      go_wp2_with (first | (go_at_call 91; refine (field_at _ _ _ _ h0 h1 (by omega) (by omega) (by omega) (by omega)).mono ?_; rintro e w' ⟨rfl, n, rfl⟩) | (go_at_call 94; refine (sext_any _ _ _ h0 h1).mono ?_; rintro e w' ⟨rfl, hx⟩; obtain rfl := hx.symm; clear hx))
      all_goals refine ret_cell1 rfl rfl (loadIn_row (c := unpackI x) ?_) rfl ⟨rfl, ?_⟩
      all_goals first | (rw [HU.out]; simp [go_sem]; done) | (refine bdrewN ?_ _; go_grown) | go_grown
    · have hu : unpackI x = { F := 3, U := true, V := fldI x 28 1 == 1, A := fldI x 24 4, B := 0, O := 0, C := 0, N := sext x 24 } := by simp [unpackI, hF, hU]
      have HU : Hid (_ = _) := hu
      clear hu
      go_enter Tryz.func59, Tryz.ntmps59
      go_wp2_with (first | (go_at_call 91; refine (field_at _ _ _ _ h0 h1 (by omega) (by omega) (by omega) (by omega)).mono ?_; rintro e w' ⟨rfl, n, rfl⟩) | (go_at_call 94; refine (sext_any _ _ _ h0 h1).mono ?_; rintro e w' ⟨rfl, hx⟩; obtain rfl := hx.symm; clear hx))
      all_goals refine ret_cell1 rfl rfl (loadIn_row (c := unpackI x) ?_) rfl ⟨rfl, ?_⟩
      all_goals first | (rw [HU.out]; simp [go_sem]; done) | (refine bdrewN ?_ _; go_grown) | go_grown
def encW (i : In) : Int := if rightB i = true then packV i else 0
def encE (i : In) : Int := if rightB i = true then 0 else 20
theorem encode_any (i : In) (w : World) (hw : Ways w) : Calls Tryz.prog 25 #[.agg i.cells] w fun e w' => e = .returned (.tuple #[.int .u32 (encW i), .int .i64 (encE i)]) ∧ Below w.heap.size w w' := by
  have HW : Hid (Ways (w.alloc (.cells i.cells 52))) := hw.alloc (.cells i.cells 52)
  clear hw
  cases hr : rightB i
  · have h1 : encW i = 0 := by simp [encW, hr]
    have h2 : encE i = 20 := by simp [encE, hr]
    rw [h1, h2]
    clear h1 h2
    go_enter Tryz.func25, Tryz.ntmps25
    go_wp2_with (go_at_call 48; refine (right_any i _ HW.out).mono ?_; rw [hr]; rintro e w1 ⟨rfl, hb⟩)
    go_ret2
    exact ⟨rfl, ((Below.refl _ _).alloc (Nat.le_refl _) _).trans (hb.mono (by simp))⟩
  · have h1 : encW i = packV i := by simp [encW, hr]
    have h2 : encE i = 0 := by simp [encE, hr]
    have HR : Hid (Rt i) := right_bd hr
    rw [h1, h2]
    clear h1 h2
    go_enter Tryz.func25, Tryz.ntmps25
    go_wp2_with (first | (go_at_call 48; refine (right_any i _ HW.out).mono ?_; rw [hr]; rintro e w1 ⟨rfl, hb⟩; obtain ⟨hc, hq, hm, hz⟩ := bcell hb) | (go_at_call 49; refine (pack_any i _ HR.out).mono ?_; rintro e w2 ⟨rfl, hb2⟩))
    go_ret2
    exact ⟨rfl, (((Below.refl _ _).alloc (Nat.le_refl _) _).trans (hb.mono (by simp))).trans (hb2.mono (by have := hb.size; simp at this; omega))⟩
def decOk (x : Int) : Bool := rightB (unpackI x) && packV (unpackI x) == x
def decI (x : Int) : In := if decOk x = true then unpackI x else { F := 0, U := false, V := false, A := 0, B := 0, O := 0, C := 0, N := 0 }
theorem decode_any (x : Int) (w : World) (hw : Ways w) (h0 : 0 ≤ x) (h1 : x ≤ 4294967295) : Calls Tryz.prog 33 #[.int .u32 x] w fun e w' => e = .returned (.tuple #[.agg (decI x).cells, .bool (decOk x)]) ∧ Below w.heap.size w w' := by
  have HW : Hid (Ways w) := hw
  clear hw
  cases hr : rightB (unpackI x)
  · have hd : decOk x = false := by simp [decOk, hr]
    have hi : decI x = { F := 0, U := false, V := false, A := 0, B := 0, O := 0, C := 0, N := 0 } := by simp [decI, hd]
    rw [hd, hi]
    clear hd hi
    go_enter Tryz.func33, Tryz.ntmps33
    go_wp2_with (first | (go_at_call 59; refine (unpack_any x _ h0 h1).mono ?_; rintro e w1 ⟨rfl, hb⟩; obtain ⟨hc, hq, hm, hz⟩ := bcell hb; have hs := hb.size; simp at hs; have hr1 : roomAt w1 w.heap.size 8 = true := by rw [roomAt_below hb _ _ (by simp)]; exact roomIn_new _ _ _ _ rfl) | (go_at_call 48; refine (right_any (unpackI x) _ ((HW.out.below (((Below.refl _ _).alloc (Nat.le_refl _) _).trans (hb.mono (by simp))) HW.out.big).alloc _)).mono ?_; rw [hr]; rintro e w2 ⟨rfl, hb2⟩; obtain ⟨hc2, hq2, hm2, hz2⟩ := bcell hb2; have hs2 := hb2.size; simp at hs2; have hr2 : roomAt w2 w.heap.size 8 = true := by rw [roomAt_below hb2 _ _ (by simp; omega), roomAt_old _ _ _ _ (by omega)]; exact hr1))
    refine ret_cell_tmp rfl rfl (loadIn_row (rowIn_put _ _ _ hr2)) rfl ⟨rfl, below_put ?_ _ (Nat.le_refl _) _⟩
    exact ((((Below.refl _ _).alloc (Nat.le_refl _) _).trans (hb.mono (by simp))).alloc (by omega) _).trans (hb2.mono (by simp; omega))
  · have HR : Hid (Rt (unpackI x)) := right_bd hr
    cases hp : packV (unpackI x) == x
    · have hd : decOk x = false := by simp [decOk, hr, hp]
      have hi : decI x = { F := 0, U := false, V := false, A := 0, B := 0, O := 0, C := 0, N := 0 } := by simp [decI, hd]
      rw [hd, hi]
      clear hd hi
      have hne : (packV (unpackI x) != x) = true := by simp [bne, hp]
      go_enter Tryz.func33, Tryz.ntmps33
      go_wp2_with (first | (go_at_call 59; refine (unpack_any x _ h0 h1).mono ?_; rintro e w1 ⟨rfl, hb⟩; obtain ⟨hc, hq, hm, hz⟩ := bcell hb; have hs := hb.size; simp at hs; have hr1 : roomAt w1 w.heap.size 8 = true := by rw [roomAt_below hb _ _ (by simp)]; exact roomIn_new _ _ _ _ rfl) | (go_at_call 48; refine (right_any (unpackI x) _ ((HW.out.below (((Below.refl _ _).alloc (Nat.le_refl _) _).trans (hb.mono (by simp))) HW.out.big).alloc _)).mono ?_; rw [hr]; rintro e w2 ⟨rfl, hb2⟩; obtain ⟨hc2, hq2, hm2, hz2⟩ := bcell hb2; have hs2 := hb2.size; simp at hs2; have hr2 : roomAt w2 w.heap.size 8 = true := by rw [roomAt_below hb2 _ _ (by simp; omega), roomAt_old _ _ _ _ (by omega)]; exact hr1) | (go_at_call 49; refine (pack_any (unpackI x) _ HR.out).mono ?_; rintro e w3 ⟨rfl, hb3⟩; obtain ⟨hc3, hq3, hm3, hz3⟩ := bcell hb3; have hs3 := hb3.size; have hr3 : roomAt w3 w.heap.size 8 = true := by rw [roomAt_below hb3 _ _ (by omega)]; exact hr2))
      refine ret_cell_tmp rfl rfl (loadIn_row (rowIn_put _ _ _ hr3)) rfl ⟨rfl, below_put ?_ _ (Nat.le_refl _) _⟩
      exact (((((Below.refl _ _).alloc (Nat.le_refl _) _).trans (hb.mono (by simp))).alloc (by omega) _).trans (hb2.mono (by simp; omega))).trans (hb3.mono (by omega))
    · have hd : decOk x = true := by simp [decOk, hr, hp]
      have hi : decI x = unpackI x := by simp [decI, hd]
      rw [hd, hi]
      clear hd hi
      have PK : ∀ w, Calls Tryz.prog 49 #[.agg (unpackI x).cells] w fun e w' => e = .returned (.int .u32 x) ∧ Below w.heap.size w w' := fun w => by
        have hk := pack_any (unpackI x) w HR.out
        rw [beq_iff_eq.1 hp] at hk
        exact hk
      have PH : Hid (∀ w, Calls Tryz.prog 49 #[.agg (unpackI x).cells] w fun e w' => e = .returned (.int .u32 x) ∧ Below w.heap.size w w') := PK
      clear hp PK
      go_enter Tryz.func33, Tryz.ntmps33
      go_wp2_with (first | (go_at_call 59; refine (unpack_any x _ h0 h1).mono ?_; rintro e w1 ⟨rfl, hb⟩; obtain ⟨hc, hq, hm, hz⟩ := bcell hb; have hs := hb.size; simp at hs; have hr1 : roomAt w1 w.heap.size 8 = true := by rw [roomAt_below hb _ _ (by simp)]; exact roomIn_new _ _ _ _ rfl) | (go_at_call 48; refine (right_any (unpackI x) _ ((HW.out.below (((Below.refl _ _).alloc (Nat.le_refl _) _).trans (hb.mono (by simp))) HW.out.big).alloc _)).mono ?_; rw [hr]; rintro e w2 ⟨rfl, hb2⟩; obtain ⟨hc2, hq2, hm2, hz2⟩ := bcell hb2; have hs2 := hb2.size; simp at hs2; have hr2 : roomAt w2 w.heap.size 8 = true := by rw [roomAt_below hb2 _ _ (by simp; omega), roomAt_old _ _ _ _ (by omega)]; exact hr1) | (go_at_call 49; refine (PH.out _).mono ?_; rintro e w3 ⟨rfl, hb3⟩; obtain ⟨hc3, hq3, hm3, hz3⟩ := bcell hb3; have hs3 := hb3.size; have hr3 : roomAt w3 w.heap.size 8 = true := (roomAt_below hb3 _ _ (by omega)).trans hr2; have hk3 : rowAt w3 w1.heap.size = some (unpackI x).cells := (rowAt_below hb3 _ (by omega)).trans ((rowAt_below hb2 _ (by simp)).trans (rowAt_new _ _ _ _))))
      refine ret_cell_tmp rfl rfl (loadIn_row (rowIn_put _ _ _ hr3)) rfl ⟨rfl, below_put ?_ _ (Nat.le_refl _) _⟩
      exact (((((Below.refl _ _).alloc (Nat.le_refl _) _).trans (hb.mono (by simp))).alloc (by omega) _).trans (hb2.mono (by simp; omega))).trans (hb3.mono (by omega))
end Go.Proofs.YtmldlkcgaepaaaaGreatDoor
