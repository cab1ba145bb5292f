/-
  A part of the walk of the law on images.
-/
import Derived.Test.YthkpohlgekfnjaaFromsW
namespace Go.Proofs.Ythkpohlgekfnjaa
open Go.ChangeShapes Go.WideShapes Go.ChangeAt Go.RowKit
attribute [local go_sem ↓] loadSec_seal storeSec_seal eqlSec_seal zeroSec
attribute [local go_sem] loadSec_run storeSec_run rowAt_at rowAt_old rowAt_drew rowAt_drewN roomSec_new roomAt_old roomAt_drew roomAt_drewN putSec_new putRow_past rowSec_put size_put putRow_drew putRow_drewN alloc_drewN setCell_drewN sec_size
namespace diskFroms
set_option linter.unusedVariables false
set_option maxHeartbeats 8000000 in
set_option maxRecDepth 20000 in
theorem out_bad_low (a : Option Addr) (L cap : Nat) (f : Nat → Int) (n : Int) (w : World) (hn : n < 0) (hbad : ¬ okLen L) (hr : RdB w a (L) f) (hlc : L ≤ cap) : Calls Try.prog 4 #[.slice a (L : Nat) cap, .int .i64 n] w fun e w' => e = .returned (.bool true) ∧ Below w.heap.size w w' := by
  have hLm : ((L : Nat) : Int) ≤ 9223372036854775807 := by have := hr.1; unfold maxLen at this; omega
  have HRw : Hid (RdB w a (L) f) := hr
  clear hr
  go_enter Try.func4, Try.ntmps4
  go_wp2_with (go_at_call 9; refine (shown_any _).mono ?_; rintro e w1 ⟨rfl, hb1⟩; have HBI : Hid (Below w.heap.size w w1) := hb1; have HRi : Hid (RdB w1 a (L) f) := HRw.out.below hb1; clear hb1; have hxin := conv_str cap HRi.out; obtain ⟨g, c, W, hcv, hrd, hLc, hmr, hg1, hg2, hbW⟩ := mine_world HRi.out; have HM : Hid (RdB W (some ⟨g, 0, none⟩) L (f) ∧ L ≤ c ∧ MRow W g L ∧ w1.heap.size ≤ g ∧ g < W.heap.size ∧ Below w1.heap.size w1 W ∧ RdB W a L (f)) := ⟨hrd, hLc, hmr, hg1, hg2, hbW, HRi.out.below hbW⟩; clear hrd hLc hmr hg1 hg2 hbW)
  go_wp2_with (first
    | (go_at_call 18; refine (from_bad _ _ _ _ hbad HM.out.1.1).mono ?_; rintro e w3 ⟨rfl, hb3⟩; have H3 : Hid (Below W.heap.size W w3) := hb3; clear hb3)
    | (go_at_call 19; refine (rfrom_bad _ _ _ _ hbad HM.out.1.1).mono ?_; rintro e w4 ⟨rfl, hb4⟩; have H4 : Hid (Tail w g (L) w4) := (Tail.next (Tail.next ⟨HM.out.2.2.1, HBI.out.trans (HM.out.2.2.2.2.2.1.mono HBI.out.size), Nat.le_trans HBI.out.size HM.out.2.2.2.1⟩ HM.out.2.2.2.2.1 H3.out) (Nat.lt_of_lt_of_le HM.out.2.2.2.2.1 H3.out.size) hb4); clear hb4))
  go_loopw [14] (fun i X => ∃ k : Nat, k ≤ L ∧ i = .int .i64 k ∧ Tail w g (L) X) (fun i _ => L - (intOf i).toNat)
  case atStart => exact ⟨0, by omega, rfl, H4.out⟩
  case round =>
    obtain ⟨k2, hk2, rfl, hX2⟩ := hrel
    have HX2 : Hid (Tail w g (L) _) := hX2
    by_cases hlt2 : k2 < L
    · obtain ⟨⟨v0, y0⟩, y1⟩ := hX2.row.at hlt2
      have y2 : (0 : Int) ≤ (k2 : Int) := by omega
      have y3 : (k2 : Int) < (((L : Nat) : Int)) := by omega
      clear hX2
      go_wp2
      go_roundw
      case rel => exact ⟨k2 + 1, by omega, by go_num, HX2.out.step _⟩
      case measure => simp [intOf]; omega
    · have y3 : ¬ (k2 : Int) < (((L : Nat) : Int)) := by omega
      clear hX2
      go_wp2
      go_ret
      exact ⟨by simp, HX2.out.below⟩
set_option maxHeartbeats 8000000 in
set_option maxRecDepth 20000 in
theorem out_bad_high (a : Option Addr) (L cap : Nat) (f : Nat → Int) (n : Int) (w : World) (hn : 9000 < n) (hbad : ¬ okLen L) (hr : RdB w a (L) f) (hlc : L ≤ cap) : Calls Try.prog 4 #[.slice a (L : Nat) cap, .int .i64 n] w fun e w' => e = .returned (.bool true) ∧ Below w.heap.size w w' := by
  have hn0 : (0 : Int) ≤ n := by omega
  have hn1 : decide (n ≤ 9000) = false := decide_eq_false (by omega)
  have hn2 : ¬ n ≤ 9000 := by omega
  have hLm : ((L : Nat) : Int) ≤ 9223372036854775807 := by have := hr.1; unfold maxLen at this; omega
  have HRw : Hid (RdB w a (L) f) := hr
  clear hr
  go_enter Try.func4, Try.ntmps4
  go_wp2_with (go_at_call 9; refine (shown_any _).mono ?_; rintro e w1 ⟨rfl, hb1⟩; have HBI : Hid (Below w.heap.size w w1) := hb1; have HRi : Hid (RdB w1 a (L) f) := HRw.out.below hb1; clear hb1; have hxin := conv_str cap HRi.out; obtain ⟨g, c, W, hcv, hrd, hLc, hmr, hg1, hg2, hbW⟩ := mine_world HRi.out; have HM : Hid (RdB W (some ⟨g, 0, none⟩) L (f) ∧ L ≤ c ∧ MRow W g L ∧ w1.heap.size ≤ g ∧ g < W.heap.size ∧ Below w1.heap.size w1 W ∧ RdB W a L (f)) := ⟨hrd, hLc, hmr, hg1, hg2, hbW, HRi.out.below hbW⟩; clear hrd hLc hmr hg1 hg2 hbW)
  go_wp2_with (first
    | (go_at_call 18; refine (from_bad _ _ _ _ hbad HM.out.1.1).mono ?_; rintro e w3 ⟨rfl, hb3⟩; have H3 : Hid (Below W.heap.size W w3) := hb3; clear hb3)
    | (go_at_call 19; refine (rfrom_bad _ _ _ _ hbad HM.out.1.1).mono ?_; rintro e w4 ⟨rfl, hb4⟩; have H4 : Hid (Tail w g (L) w4) := (Tail.next (Tail.next ⟨HM.out.2.2.1, HBI.out.trans (HM.out.2.2.2.2.2.1.mono HBI.out.size), Nat.le_trans HBI.out.size HM.out.2.2.2.1⟩ HM.out.2.2.2.2.1 H3.out) (Nat.lt_of_lt_of_le HM.out.2.2.2.2.1 H3.out.size) hb4); clear hb4))
  go_loopw [14] (fun i X => ∃ k : Nat, k ≤ L ∧ i = .int .i64 k ∧ Tail w g (L) X) (fun i _ => L - (intOf i).toNat)
  case atStart => exact ⟨0, by omega, rfl, H4.out⟩
  case round =>
    obtain ⟨k2, hk2, rfl, hX2⟩ := hrel
    have HX2 : Hid (Tail w g (L) _) := hX2
    by_cases hlt2 : k2 < L
    · obtain ⟨⟨v0, y0⟩, y1⟩ := hX2.row.at hlt2
      have y2 : (0 : Int) ≤ (k2 : Int) := by omega
      have y3 : (k2 : Int) < (((L : Nat) : Int)) := by omega
      clear hX2
      go_wp2
      go_roundw
      case rel => exact ⟨k2 + 1, by omega, by go_num, HX2.out.step _⟩
      case measure => simp [intOf]; omega
    · have y3 : ¬ (k2 : Int) < (((L : Nat) : Int)) := by omega
      clear hX2
      go_wp2
      go_ret
      exact ⟨by simp, HX2.out.below⟩
end diskFroms
end Go.Proofs.Ythkpohlgekfnjaa
