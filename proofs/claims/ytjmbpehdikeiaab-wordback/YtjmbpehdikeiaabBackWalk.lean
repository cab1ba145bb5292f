/-
  The walk of the law WordBack: for every two words, every carry and every count it returns true, and nothing that was there has turned.
-/
import Derived.Test.YtjmbpehdikeiaabBacks
namespace Go.Proofs.Ytjmbpehdikeiaab
open Go.ChangeShapes Go.WideShapes Go.ChangeAt Go.RowKit

theorem rorK_any_bd (a : Int) (k : Int) (h0 : 0 ≤ a) (h1 : a ≤ 4294967295) : 0 ≤ rorK a (k % 32).toNat ∧ rorK a (k % 32).toNat ≤ 4294967295 := rorK_bd a _ h0 h1 (by omega)
theorem put_cells {w : World} {g : Nat} {v : Int} (h : ∀ i, i < 4 → w.cell? ⟨g, 0 + i, none⟩ = some (.int .u8 (putL 4 (fun _ => 0) 0 v i))) : RdB w (some ⟨g, 0, none⟩) 4 (byteOf v) := by
  refine ⟨by unfold maxLen; omega, .inr ⟨_, _, rfl, fun i hi => ⟨?_, byteOf_bd v i⟩⟩⟩
  rw [h i hi]
  have e : fits 4 0 = true := by decide
  rw [putL, if_pos e, partL, if_pos (by simp; omega)]
  rfl

theorem below_draws {B : Nat} {a w : World} (h : Below B a w) (n : Nat) : Below B a (w.drewN n) := h.trans ⟨rfl, rfl, rfl, Nat.le_refl _, fun _ _ => rfl⟩

set_option maxHeartbeats 1000000 in
theorem back_any (a b : Int) (c : Bool) (n : Int) (w : World) (h0 : 0 ≤ a) (h1 : a ≤ 4294967295) (g0 : 0 ≤ b) (g1 : b ≤ 4294967295) (n0 : 0 ≤ n) (n1 : n ≤ 4294967295) :
    Calls Try.prog 3 #[.int .u32 a, .int .u32 b, .bool c, .int .u32 n] w fun e w' => e = .returned (.bool true) ∧ Below w.heap.size w w' := by
  obtain ⟨i0, hi, hz0, hz1, hz2⟩ := info_parts info5
  have HS : Hid _ := back_sum a b c h0 h1 g0 g1
  have HA : Hid _ := addS_bd a b c
  obtain ⟨m1, m2, m3, m4, m5, m6, m7⟩ := mul_whole a b h0 h1 g0 g1
  have HX : Hid _ := hex_back a h0 h1
  have HN : Hid ((hexS a 8).size ≤ maxLen) := by show (strOfNums _).size ≤ _; rw [strOfNums_size, hl_len]; unfold maxLen; omega
  obtain ⟨t, ht⟩ : ∃ t, t = rorK a (n % 32).toNat := ⟨_, rfl⟩
  have HT : Hid (rorK a (n % 32 % 32).toNat = t) := by show _ = _; rw [ht, show n % 32 % 32 = n % 32 by omega]
  have HR : Hid (rorK t ((32 - n % 32) % 32).toNat = a) := by
    have := ror_back a (n % 32).toNat h0 h1 (by omega)
    rw [show (32 - (n % 32).toNat) % 32 = ((32 - n % 32) % 32).toNat by omega, ← ht] at this
    exact this
  have HRb : Hid (0 ≤ t ∧ t ≤ 4294967295) := by rw [ht]; exact rorK_any_bd a n h0 h1
  clear ht
  have HG : Hid _ := put_got a (byteOf a) h0 h1 (fun _ _ => rfl)
  have HF : Hid (fits 4 0 = true) := by show fits 4 0 = true; decide
  obtain ⟨g, hg⟩ : ∃ g, g = w.heap.size := ⟨_, rfl⟩
  have HW : Hid (g = w.heap.size) := hg
  rw [← hg]
  clear hg
  by_cases hb : divB b = true
  · obtain ⟨d1, d2, d3, d4, d5⟩ := div_whole a b h0 h1 g0 g1 hb
    have d6 : (divQ a b * b + divR a b) % 4294967296 = a := by omega
    clear d1
    go_enter Try.func3, Try.ntmps3
    go_wp2_with (first
      | (go_at_call 4; refine (shown_any _).mono ?_; rintro e w' ⟨rfl, hw⟩; obtain rfl := hw.symm; clear hw)
      | (go_at_call 5; refine (add_any _ _ _ _ h0 h1 g0 g1).mono ?_; rintro e w' ⟨rfl, hw⟩; obtain rfl := hw.symm; clear hw)
      | (go_at_call 6; refine (sub_any _ _ _ _ HA.out.1 HA.out.2 g0 g1).mono ?_; rw [HS.out.1, HS.out.2]; rintro e w' ⟨rfl, hw⟩; obtain rfl := hw.symm; clear hw)
      | (go_at_call 7; refine (mul_any _ _ _ _ h0 h1 g0 g1).mono ?_; rintro e w' ⟨rfl, hw⟩; obtain rfl := hw.symm; clear hw)
      | (at_make; refine wpList_make_full _ rfl _ _ 28 rfl g 5 i0 (.int .u8 0) 1 Try.underlying28 hi hz0 hz1 .i64 .i64 _ _ 4 rfl rfl (by omega) (by omega) (by rw [hz2]; omega) (by unfold maxLen; omega) (Nat.le_of_eq HW.out) ?_; intro w2 hown2 hgrow2; rw [← HW.out] at hown2; have hb2 : Below g w w2 := (Below.refl _ _).grown hgrow2 (Nat.le_of_eq HW.out) (by simp); have Z : Hid _ := zero_cells (made_of hown2); clear hown2 hgrow2; simp only [← HW.out])
      | (go_at_call 8; refine (put_any g 0 4 _ (fun _ => 0) 0 a _ (by unfold maxLen; omega) (fun i hi => by rw [Nat.zero_add]; exact Z.out.1 i hi) (fun i hi => Z.out.2 _)).mono ?_; rw [HF.out]; rintro e w3 ⟨rfl, p1, p2, p3, p4⟩; have hr3 : RdB w3 (some ⟨g, 0, none⟩) 4 (byteOf a) := put_cells p1; have hb3 : Below g w w3 := hb2.trans p3; clear p1 p2 p3 p4)
      | (go_at_call 9; refine (get_any _ _ _ (byteOf a) _ _ hr3).mono ?_; rw [HG.out, HF.out]; rintro e w4 ⟨rfl, b4⟩; have hb4 : Below g w w4 := hb3.trans (b4.mono (by rw [HW.out]; exact hb3.size)))
      | (go_at_call 11; refine (hex_any _ _ h0 h1).mono ?_; rintro e w5 ⟨rfl, b5⟩; have hb5 : Below g w w5 := hb4.trans (b5.mono (by rw [HW.out]; exact hb4.size)))
      | (go_at_call 10; refine (unhex_any _ _ HN.out).mono ?_; rw [HX.out.1, HX.out.2]; rintro e w6 ⟨rfl, b6⟩; have hb6 : Below g w w6 := hb5.trans (b6.mono (by rw [HW.out]; exact hb5.size)))
      | (go_at_call_of 12 t; refine (ror_any _ _ _ HRb.out.1 HRb.out.2 (by omega) (by omega)).mono ?_; rw [HR.out]; rintro e w' ⟨rfl, hw⟩; obtain rfl := hw.symm; clear hw)
      | (go_at_call 12; refine (ror_any _ _ _ h0 h1 (by omega) (by omega)).mono ?_; rw [HT.out]; rintro e w' ⟨rfl, hw⟩; obtain rfl := hw.symm; clear hw)
      | (go_at_call 13; refine (div_any _ _ _ h0 h1 g0 g1).mono ?_; rw [hb]; rintro e w7 ⟨rfl, n7, rfl⟩))
    go_ret
    exact ⟨rfl, below_draws hb6 n7⟩
  · have hb' : divB b = false := by simpa using hb
    clear hb
    go_enter Try.func3, Try.ntmps3
    go_wp2_with (first
      | (go_at_call 4; refine (shown_any _).mono ?_; rintro e w' ⟨rfl, hw⟩; obtain rfl := hw.symm; clear hw)
      | (go_at_call 5; refine (add_any _ _ _ _ h0 h1 g0 g1).mono ?_; rintro e w' ⟨rfl, hw⟩; obtain rfl := hw.symm; clear hw)
      | (go_at_call 6; refine (sub_any _ _ _ _ HA.out.1 HA.out.2 g0 g1).mono ?_; rw [HS.out.1, HS.out.2]; rintro e w' ⟨rfl, hw⟩; obtain rfl := hw.symm; clear hw)
      | (go_at_call 7; refine (mul_any _ _ _ _ h0 h1 g0 g1).mono ?_; rintro e w' ⟨rfl, hw⟩; obtain rfl := hw.symm; clear hw)
      | (at_make; refine wpList_make_full _ rfl _ _ 28 rfl g 5 i0 (.int .u8 0) 1 Try.underlying28 hi hz0 hz1 .i64 .i64 _ _ 4 rfl rfl (by omega) (by omega) (by rw [hz2]; omega) (by unfold maxLen; omega) (Nat.le_of_eq HW.out) ?_; intro w2 hown2 hgrow2; rw [← HW.out] at hown2; have hb2 : Below g w w2 := (Below.refl _ _).grown hgrow2 (Nat.le_of_eq HW.out) (by simp); have Z : Hid _ := zero_cells (made_of hown2); clear hown2 hgrow2; simp only [← HW.out])
      | (go_at_call 8; refine (put_any g 0 4 _ (fun _ => 0) 0 a _ (by unfold maxLen; omega) (fun i hi => by rw [Nat.zero_add]; exact Z.out.1 i hi) (fun i hi => Z.out.2 _)).mono ?_; rw [HF.out]; rintro e w3 ⟨rfl, p1, p2, p3, p4⟩; have hr3 : RdB w3 (some ⟨g, 0, none⟩) 4 (byteOf a) := put_cells p1; have hb3 : Below g w w3 := hb2.trans p3; clear p1 p2 p3 p4)
      | (go_at_call 9; refine (get_any _ _ _ (byteOf a) _ _ hr3).mono ?_; rw [HG.out, HF.out]; rintro e w4 ⟨rfl, b4⟩; have hb4 : Below g w w4 := hb3.trans (b4.mono (by rw [HW.out]; exact hb3.size)))
      | (go_at_call 11; refine (hex_any _ _ h0 h1).mono ?_; rintro e w5 ⟨rfl, b5⟩; have hb5 : Below g w w5 := hb4.trans (b5.mono (by rw [HW.out]; exact hb4.size)))
      | (go_at_call 10; refine (unhex_any _ _ HN.out).mono ?_; rw [HX.out.1, HX.out.2]; rintro e w6 ⟨rfl, b6⟩; have hb6 : Below g w w6 := hb5.trans (b6.mono (by rw [HW.out]; exact hb5.size)))
      | (go_at_call_of 12 t; refine (ror_any _ _ _ HRb.out.1 HRb.out.2 (by omega) (by omega)).mono ?_; rw [HR.out]; rintro e w' ⟨rfl, hw⟩; obtain rfl := hw.symm; clear hw)
      | (go_at_call 12; refine (ror_any _ _ _ h0 h1 (by omega) (by omega)).mono ?_; rw [HT.out]; rintro e w' ⟨rfl, hw⟩; obtain rfl := hw.symm; clear hw)
      | (go_at_call 13; refine (div_any _ _ _ h0 h1 g0 g1).mono ?_; rw [hb']; rintro e w7 ⟨rfl, n7, rfl⟩))
    go_ret
    exact ⟨rfl, below_draws hb6 n7⟩
end Go.Proofs.Ytjmbpehdikeiaab
