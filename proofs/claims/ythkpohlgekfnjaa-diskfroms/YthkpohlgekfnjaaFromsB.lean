/-
  A part of the walk of the law on images.
-/
import Derived.Test.YthkpohlgekfnjaaFromsW
namespace Go.Proofs.Ythkpohlgekfnjaa
open Go.ChangeShapes Go.WideShapes Go.ChangeAt Go.RowKit
attribute [local go_sem ↓] loadSec_seal storeSec_seal eqlSec_seal zeroSec
attribute [local go_sem] loadSec_run storeSec_run rowAt_at rowAt_old rowAt_drew rowAt_drewN roomSec_new roomAt_old roomAt_drew roomAt_drewN putSec_new putRow_past rowSec_put size_put putRow_drew putRow_drewN alloc_drewN setCell_drewN sec_size
namespace diskFroms
set_option linter.unusedVariables false
set_option maxHeartbeats 8000000 in
set_option maxRecDepth 20000 in
theorem out_good_low (m : Nat) (hm0 : 8 ≤ m) (hm1 : m ≤ 1024) (bb off cap : Nat) (f : Nat → Int) (n : Int) (w : World) (hn : n < 0)  (hr : RdB w (some ⟨bb, off, none⟩) (m * 1024) f) (hlc : m * 1024 ≤ cap) : Calls Try.prog 4 #[.slice (some ⟨bb, off, none⟩) (m * 1024 : Nat) cap, .int .i64 n] w fun e w' => e = .returned (.bool true) ∧ Below w.heap.size w w' := by
  have hq9 : ((m * 1024 : Nat) : Int) / 1024 = (m : Int) := by omega
  have hs9 := strF_size f (m * 1024)
  have hLm : ((m * 1024 : Nat) : Int) ≤ 9223372036854775807 := by have := hr.1; unfold maxLen at this; omega
  have HRw : Hid (RdB w (some ⟨bb, off, none⟩) (m * 1024) f) := hr
  clear hr
  go_enter Try.func4, Try.ntmps4
  go_wp2_with (go_at_call 9; refine (shown_any _).mono ?_; rintro e w1 ⟨rfl, hb1⟩; have HBI : Hid (Below w.heap.size w w1) := hb1; have HRi : Hid (RdB w1 (some ⟨bb, off, none⟩) (m * 1024) f) := HRw.out.below hb1; clear hb1; have hxin := conv_str cap HRi.out; obtain ⟨g, c, W, hcv, hrd, hLc, hmr, hg1, hg2, hbW⟩ := mine_world HRi.out; have HM : Hid (RdB W (some ⟨g, 0, none⟩) (m * 1024) (f) ∧ (m * 1024) ≤ c ∧ MRow W g (m * 1024) ∧ w1.heap.size ≤ g ∧ g < W.heap.size ∧ Below w1.heap.size w1 W ∧ RdB W (some ⟨bb, off, none⟩) (m * 1024) (f)) := ⟨hrd, hLc, hmr, hg1, hg2, hbW, HRi.out.below hbW⟩; clear hrd hLc hmr hg1 hg2 hbW)
  go_wp2_with (first
    | (go_at_call 18; refine (from_good g 0 m c (f) _ hm0 hm1 HM.out.1 HM.out.2.1).mono ?_; rintro e w3 ⟨d, D, rfl, hR, hDn, hDm, hDS, hDf, hb3⟩; have H3 : Hid (Below W.heap.size W w3 ∧ Rep w3 d D ∧ D.n = m ∧ D.m = 0 ∧ D.S = (fun i j => (f) (i * 1024 + j)) ∧ D.fresh d W.heap.size) := ⟨hb3, hR, hDn, hDm, hDS, hDf⟩; clear hb3 hR hDn hDm hDS hDf)
    | (go_at_call 19; refine (rfrom_good _ _ m _ (f) _ hm0 hm1 (HM.out.2.2.2.2.2.2.below H3.out.1) hlc).mono ?_; rintro e w4 ⟨r, rfl, hb4⟩; have H4 : Hid (Tail w g (m * 1024) w4 ∧ Rep w4 d D) := ⟨(Tail.next (Tail.next ⟨HM.out.2.2.1, HBI.out.trans (HM.out.2.2.2.2.2.1.mono HBI.out.size), Nat.le_trans HBI.out.size HM.out.2.2.2.1⟩ HM.out.2.2.2.2.1 H3.out.1) (Nat.lt_of_lt_of_le HM.out.2.2.2.2.1 H3.out.1.size) hb4), H3.out.2.1.below hb4⟩; clear hb4))
  go_loopw [14] (fun i X => ∃ k : Nat, k ≤ m * 1024 ∧ i = .int .i64 k ∧ Tail w g (m * 1024) X ∧ Rep X d D) (fun i _ => m * 1024 - (intOf i).toNat)
  case atStart => exact ⟨0, by omega, rfl, H4.out⟩
  case round =>
    obtain ⟨k2, hk2, rfl, hX2, hRX⟩ := hrel
    have HX2 : Hid (Tail w g (m * 1024) _) := hX2
    have HRX : Hid (Rep _ d D) := hRX
    by_cases hlt2 : k2 < m * 1024
    · obtain ⟨⟨v0, y0⟩, y1⟩ := hX2.row.at hlt2
      have y2 : (0 : Int) ≤ (k2 : Int) := by omega
      have y3 : (k2 : Int) < (((m * 1024 : Nat) : Int)) := by omega
      clear hX2 hRX
      go_wp2
      go_roundw
      case rel => exact ⟨k2 + 1, by omega, by go_num, HX2.out.step _, tail_rep HRX.out H3.out.2.2.2.2.2 HM.out.2.2.2.2.1 _⟩
      case measure => simp [intOf]; omega
    · have y3 : ¬ (k2 : Int) < (((m * 1024 : Nat) : Int)) := by omega
      clear hX2 hRX
      have hDn := H3.out.2.2.1
      have hDm := H3.out.2.2.2.1
      go_wp2_with (first
        | (go_at_call 17; refine (image_any d D _ HRX.out).mono ?_; rintro e w5 ⟨gi, ci, he, hri, _, _, hb5⟩; rw [hDn] at he; obtain rfl := he; have hq5 := conv_str ci hri; rw [hDn, H3.out.2.2.2.2.1, strF_ext (g := f) (fun i _ => img_of i)] at hq5; have H5 : Hid (Rep w5 d D ∧ Below w.heap.size w w5) := ⟨HRX.out.below hb5, HX2.out.below.trans (hb5.mono HX2.out.below.size)⟩; clear hri hb5)
        | (go_at_call 16; refine (sectors_any d D _ H5.out.1).mono ?_; rintro e w6 ⟨he, hb6⟩; rw [hDn] at he; obtain rfl := he; have H6 : Hid (Rep w6 d D ∧ Below w.heap.size w w6) := ⟨H5.out.1.below hb6, H5.out.2.trans (hb6.mono H5.out.2.size)⟩; clear hb6)
        | (go_at_call 13; refine (writes_any d D _ H6.out.1).mono ?_; rintro e w7 ⟨gw, he, _, _, _, hb7⟩; rw [hDm] at he; obtain rfl := he; have H7 : Hid (Below w.heap.size w w7) := H6.out.2.trans (hb7.mono H6.out.2.size); clear hb7))
      go_ret
      exact ⟨by simp, H7.out⟩
set_option maxHeartbeats 8000000 in
set_option maxRecDepth 20000 in
theorem out_good_high (m : Nat) (hm0 : 8 ≤ m) (hm1 : m ≤ 1024) (bb off cap : Nat) (f : Nat → Int) (n : Int) (w : World) (hn : 9000 < n)  (hr : RdB w (some ⟨bb, off, none⟩) (m * 1024) f) (hlc : m * 1024 ≤ cap) : Calls Try.prog 4 #[.slice (some ⟨bb, off, none⟩) (m * 1024 : Nat) cap, .int .i64 n] w fun e w' => e = .returned (.bool true) ∧ Below w.heap.size w w' := by
  have hn0 : (0 : Int) ≤ n := by omega
  have hn1 : decide (n ≤ 9000) = false := decide_eq_false (by omega)
  have hn2 : ¬ n ≤ 9000 := by omega
  have hq9 : ((m * 1024 : Nat) : Int) / 1024 = (m : Int) := by omega
  have hs9 := strF_size f (m * 1024)
  have hLm : ((m * 1024 : Nat) : Int) ≤ 9223372036854775807 := by have := hr.1; unfold maxLen at this; omega
  have HRw : Hid (RdB w (some ⟨bb, off, none⟩) (m * 1024) f) := hr
  clear hr
  go_enter Try.func4, Try.ntmps4
  go_wp2_with (go_at_call 9; refine (shown_any _).mono ?_; rintro e w1 ⟨rfl, hb1⟩; have HBI : Hid (Below w.heap.size w w1) := hb1; have HRi : Hid (RdB w1 (some ⟨bb, off, none⟩) (m * 1024) f) := HRw.out.below hb1; clear hb1; have hxin := conv_str cap HRi.out; obtain ⟨g, c, W, hcv, hrd, hLc, hmr, hg1, hg2, hbW⟩ := mine_world HRi.out; have HM : Hid (RdB W (some ⟨g, 0, none⟩) (m * 1024) (f) ∧ (m * 1024) ≤ c ∧ MRow W g (m * 1024) ∧ w1.heap.size ≤ g ∧ g < W.heap.size ∧ Below w1.heap.size w1 W ∧ RdB W (some ⟨bb, off, none⟩) (m * 1024) (f)) := ⟨hrd, hLc, hmr, hg1, hg2, hbW, HRi.out.below hbW⟩; clear hrd hLc hmr hg1 hg2 hbW)
  go_wp2_with (first
    | (go_at_call 18; refine (from_good g 0 m c (f) _ hm0 hm1 HM.out.1 HM.out.2.1).mono ?_; rintro e w3 ⟨d, D, rfl, hR, hDn, hDm, hDS, hDf, hb3⟩; have H3 : Hid (Below W.heap.size W w3 ∧ Rep w3 d D ∧ D.n = m ∧ D.m = 0 ∧ D.S = (fun i j => (f) (i * 1024 + j)) ∧ D.fresh d W.heap.size) := ⟨hb3, hR, hDn, hDm, hDS, hDf⟩; clear hb3 hR hDn hDm hDS hDf)
    | (go_at_call 19; refine (rfrom_good _ _ m _ (f) _ hm0 hm1 (HM.out.2.2.2.2.2.2.below H3.out.1) hlc).mono ?_; rintro e w4 ⟨r, rfl, hb4⟩; have H4 : Hid (Tail w g (m * 1024) w4 ∧ Rep w4 d D) := ⟨(Tail.next (Tail.next ⟨HM.out.2.2.1, HBI.out.trans (HM.out.2.2.2.2.2.1.mono HBI.out.size), Nat.le_trans HBI.out.size HM.out.2.2.2.1⟩ HM.out.2.2.2.2.1 H3.out.1) (Nat.lt_of_lt_of_le HM.out.2.2.2.2.1 H3.out.1.size) hb4), H3.out.2.1.below hb4⟩; clear hb4))
  go_loopw [14] (fun i X => ∃ k : Nat, k ≤ m * 1024 ∧ i = .int .i64 k ∧ Tail w g (m * 1024) X ∧ Rep X d D) (fun i _ => m * 1024 - (intOf i).toNat)
  case atStart => exact ⟨0, by omega, rfl, H4.out⟩
  case round =>
    obtain ⟨k2, hk2, rfl, hX2, hRX⟩ := hrel
    have HX2 : Hid (Tail w g (m * 1024) _) := hX2
    have HRX : Hid (Rep _ d D) := hRX
    by_cases hlt2 : k2 < m * 1024
    · obtain ⟨⟨v0, y0⟩, y1⟩ := hX2.row.at hlt2
      have y2 : (0 : Int) ≤ (k2 : Int) := by omega
      have y3 : (k2 : Int) < (((m * 1024 : Nat) : Int)) := by omega
      clear hX2 hRX
      go_wp2
      go_roundw
      case rel => exact ⟨k2 + 1, by omega, by go_num, HX2.out.step _, tail_rep HRX.out H3.out.2.2.2.2.2 HM.out.2.2.2.2.1 _⟩
      case measure => simp [intOf]; omega
    · have y3 : ¬ (k2 : Int) < (((m * 1024 : Nat) : Int)) := by omega
      clear hX2 hRX
      have hDn := H3.out.2.2.1
      have hDm := H3.out.2.2.2.1
      go_wp2_with (first
        | (go_at_call 17; refine (image_any d D _ HRX.out).mono ?_; rintro e w5 ⟨gi, ci, he, hri, _, _, hb5⟩; rw [hDn] at he; obtain rfl := he; have hq5 := conv_str ci hri; rw [hDn, H3.out.2.2.2.2.1, strF_ext (g := f) (fun i _ => img_of i)] at hq5; have H5 : Hid (Rep w5 d D ∧ Below w.heap.size w w5) := ⟨HRX.out.below hb5, HX2.out.below.trans (hb5.mono HX2.out.below.size)⟩; clear hri hb5)
        | (go_at_call 16; refine (sectors_any d D _ H5.out.1).mono ?_; rintro e w6 ⟨he, hb6⟩; rw [hDn] at he; obtain rfl := he; have H6 : Hid (Rep w6 d D ∧ Below w.heap.size w w6) := ⟨H5.out.1.below hb6, H5.out.2.trans (hb6.mono H5.out.2.size)⟩; clear hb6)
        | (go_at_call 13; refine (writes_any d D _ H6.out.1).mono ?_; rintro e w7 ⟨gw, he, _, _, _, hb7⟩; rw [hDm] at he; obtain rfl := he; have H7 : Hid (Below w.heap.size w w7) := H6.out.2.trans (hb7.mono H6.out.2.size); clear hb7))
      go_ret
      exact ⟨by simp, H7.out⟩
end diskFroms
end Go.Proofs.Ythkpohlgekfnjaa
