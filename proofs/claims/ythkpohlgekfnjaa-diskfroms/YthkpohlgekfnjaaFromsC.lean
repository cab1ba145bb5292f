/-
  A part of the walk of the law on images.
-/
import Derived.Test.YthkpohlgekfnjaaFromsW
namespace Go.Proofs.Ythkpohlgekfnjaa
open Go.ChangeShapes Go.WideShapes Go.ChangeAt Go.RowKit
attribute [local go_sem ↓] loadSec_seal storeSec_seal eqlSec_seal zeroSec
attribute [local go_sem] loadSec_run storeSec_run rowAt_at rowAt_old rowAt_drew rowAt_drewN roomSec_new roomAt_old roomAt_drew roomAt_drewN putSec_new putRow_past rowSec_put size_put putRow_drew putRow_drewN alloc_drewN setCell_drewN sec_size
namespace diskFroms
set_option linter.unusedVariables false
def wheel (f : Nat → Int) (len : Nat) : Nat → Int := fun i => if len = 0 then 0 else f (i % len)
def mixed (h : Nat → Int) (k : Nat) : Nat → Int := fun i => if i < k then h i else 0
theorem wheel_byte {X : World} {a : Option Addr} {len n : Nat} {f : Nat → Int} (h : RdB X a len f) : ∀ i, i < n → 0 ≤ wheel f len i ∧ wheel f len i ≤ 255 := fun i _ => by
  unfold wheel
  by_cases e : len = 0
  · rw [if_pos e]; exact ⟨Int.le_refl _, by decide⟩
  · rw [if_neg e]; exact rd_byte h (Nat.mod_lt _ (by omega))
theorem wheel_cell {X : World} {a : Option Addr} {len : Nat} {f : Nat → Int} (h : RdB X a len f) (hl : 0 < len) (k : Nat) : ∃ b off, a = some ⟨b, off, none⟩ ∧ X.cell? ⟨b, off + k % len, none⟩ = some (.int .u8 (wheel f len k)) := by
  rcases h.2 with h0 | ⟨b, off, e, hc⟩
  · omega
  · refine ⟨b, off, e, ?_⟩
    rw [(hc (k % len) (Nat.mod_lt _ hl)).1, wheel, if_neg (by omega)]
theorem mixed_step {X : World} {g N len k : Nat} {f : Nat → Int} (h : BRow X g N (mixed (wheel f len) k)) (hk : k < N) (hl : 0 < len) : BRow (X.setCell ⟨g, k, none⟩ (.int .u8 (wheel f len k))) g N (mixed (wheel f len) (k + 1)) :=
  (h.set hk _).ext fun i hi => by
    unfold upd mixed
    by_cases e : i = k
    · rw [if_pos e, if_pos (by omega), e]
    · rw [if_neg e]
      by_cases e2 : i < k
      · rw [if_pos e2, if_pos (by omega)]
      · rw [if_neg e2, if_neg (by omega)]
theorem mixed_end {N len k i : Nat} {f : Nat → Int} (hgo : ¬ (k < N ∧ 0 < len)) (h0 : len = 0 → k = 0) (hi : i < N) : mixed (wheel f len) k i = wheel f len i := by
  unfold mixed
  by_cases e : len = 0
  · rw [if_neg (by have := h0 e; omega)]; unfold wheel; rw [if_pos e]
  · rw [if_pos (by omega)]
set_option maxHeartbeats 8000000 in
set_option maxRecDepth 20000 in
theorem in_bad (N : Nat) (hN : N ≤ 9000) (hbad : ¬ okLen N) (a : Option Addr) (len cap : Nat) (f : Nat → Int) (w : World) (hr : RdB w a len f) : Calls Try.prog 4 #[.slice a len cap, .int .i64 ((N : Nat) : Int)] w fun e w' => e = .returned (.bool true) ∧ Below w.heap.size w w' := by
  obtain ⟨i0, hi, hz0, hz1, hz2⟩ := info_parts info5
  have hn0 : (0 : Int) ≤ ((N : Nat) : Int) := by omega
  have hn1 : ((N : Nat) : Int) ≤ 9000 := by omega
  have hlm : (len : Int) ≤ 9223372036854775807 := by have := hr.1; unfold maxLen at this; omega
  have HRw : Hid (RdB w a len f) := hr
  clear hr
  go_enter Try.func4, Try.ntmps4
  go_wp2_with (first
    | (go_at_call 9; refine (shown_any _).mono ?_; rintro e w1 ⟨rfl, hb1⟩; have HB1 : Hid (Below w.heap.size w w1) := hb1; clear hb1)
    | (at_make; refine wpList_make_full _ rfl _ _ 43 rfl w1.heap.size 5 i0 (.int .u8 0) 1 Try.underlying43 hi hz0 hz1 .i64 .i64 _ _ (N) rfl rfl (by omega) (by omega) (by rw [hz2]; omega) (by unfold maxLen; omega) (Nat.le_refl _) ?_; intro w2 hown2 hgrow2; have HI : Hid (BRow w2 w1.heap.size (N) (fun _ => 0) ∧ Below w1.heap.size w1 w2) := ⟨BRow.made hown2, (Below.refl _ w1).grown hgrow2 (Nat.le_refl _) (fun k hk => by cases hk)⟩; clear hown2 hgrow2))
  go_loopw [7] (fun i X => ∃ k : Nat, k ≤ N ∧ i = .int .i64 k ∧ BRow X w1.heap.size (N) (mixed (wheel f len) k) ∧ Below w1.heap.size w1 X ∧ (len = 0 → k = 0)) (fun i _ => N - (intOf i).toNat)
  case atStart => exact ⟨0, by omega, rfl, HI.out.1.ext (fun i hi => rfl), HI.out.2, fun _ => rfl⟩
  case round =>
    obtain ⟨k, hk, rfl, hB, hb, h0⟩ := hrel
    have HBI : Hid (Below w.heap.size w wr) := HB1.out.trans (hb.mono HB1.out.size)
    have HBw : Hid (BRow wr w1.heap.size (N) (mixed (wheel f len) k) ∧ Below w1.heap.size w1 wr) := ⟨hB, hb⟩
    by_cases hgo : k < N ∧ 0 < len
    · obtain ⟨hk1, hl1⟩ := hgo
      have q0 : (k : Int) < ((N : Nat) : Int) := by omega
      have q1 : (0 : Int) < (len : Int) := by omega
      have q2 : (0 : Int) ≤ (k : Int) := by omega
      have q3 : (0 : Int) ≤ (k : Int) % (len : Int) := Int.emod_nonneg _ (by omega)
      have q4 : (k : Int) % (len : Int) < (len : Int) := Int.emod_lt_of_pos _ q1
      obtain ⟨bb, off, rfl, hcc⟩ := wheel_cell (HRw.out.below HBI.out) hl1 k
      obtain ⟨c0, c1⟩ := hB.at hk1
      clear hB hb h0 HI
      go_wp2
      go_roundw
      case rel => exact ⟨k + 1, by omega, by go_num, mixed_step HBw.out.1 hk1 hl1, HBw.out.2.setCell (Nat.le_refl _) _, fun h => by omega⟩
      case measure => simp [intOf]; omega
    · have HRi : Hid (RdB wr (some ⟨w1.heap.size, 0, none⟩) (N) (wheel f len)) := (HBw.out.1.ext (fun i hi => mixed_end hgo h0 hi)).rd (by unfold maxLen; omega) (wheel_byte HRw.out)
      have HKs : Hid _ := hgo
      clear hB hb h0 HI
      by_cases hkn : k < N
      · have q0 : (k : Int) < ((N : Nat) : Int) := by omega
        have q1 : ¬ (0 : Int) < (len : Int) := by omega
        have q2 : decide ((0 : Int) < (len : Int)) = false := decide_eq_false q1
        have hxin := conv_str (N) HRi.out
        obtain ⟨g, c, W, hcv, hrd, hLc, hmr, hg1, hg2, hbW⟩ := mine_world HRi.out
        have HM : Hid (RdB W (some ⟨g, 0, none⟩) (N) (wheel f len) ∧ (N) ≤ c ∧ MRow W g (N) ∧ wr.heap.size ≤ g ∧ g < W.heap.size ∧ Below wr.heap.size wr W ∧ RdB W (some ⟨w1.heap.size, 0, none⟩) (N) (wheel f len)) := ⟨hrd, hLc, hmr, hg1, hg2, hbW, HRi.out.below hbW⟩
        clear hrd hLc hmr hg1 hg2 hbW
        clear hgo
        go_wp2_with (first
          | (go_at_call 18; refine (from_bad _ _ _ _ hbad HM.out.1.1).mono ?_; rintro e w3 ⟨rfl, hb3⟩; have H3 : Hid (Below W.heap.size W w3) := hb3; clear hb3)
          | (go_at_call 19; refine (rfrom_bad _ _ _ _ hbad HM.out.1.1).mono ?_; rintro e w4 ⟨rfl, hb4⟩; have H4 : Hid (Tail w g (N) w4) := (Tail.next (Tail.next ⟨HM.out.2.2.1, HBI.out.trans (HM.out.2.2.2.2.2.1.mono HBI.out.size), Nat.le_trans HBI.out.size HM.out.2.2.2.1⟩ HM.out.2.2.2.2.1 H3.out) (Nat.lt_of_lt_of_le HM.out.2.2.2.2.1 H3.out.size) hb4); clear hb4))
        go_loopw [14] (fun i X => ∃ k : Nat, k ≤ N ∧ i = .int .i64 k ∧ Tail w g (N) X) (fun i _ => N - (intOf i).toNat)
        case atStart => exact ⟨0, by omega, rfl, H4.out⟩
        case round =>
          obtain ⟨k2, hk2, rfl, hX2⟩ := hrel
          have HX2 : Hid (Tail w g (N) _) := hX2
          by_cases hlt2 : k2 < N
          · obtain ⟨⟨v0, y0⟩, y1⟩ := hX2.row.at hlt2
            have y2 : (0 : Int) ≤ (k2 : Int) := by omega
            have y3 : (k2 : Int) < (((N : Nat) : Int)) := by omega
            clear hX2
            go_wp2
            go_roundw
            case rel => exact ⟨k2 + 1, by omega, by go_num, HX2.out.step _⟩
            case measure => simp [intOf]; omega
          · have y3 : ¬ (k2 : Int) < (((N : Nat) : Int)) := by omega
            clear hX2
            go_wp2
            go_ret
            exact ⟨by simp, HX2.out.below⟩
      · have q0 : ¬ (k : Int) < ((N : Nat) : Int) := by omega
        have hxin := conv_str (N) HRi.out
        obtain ⟨g, c, W, hcv, hrd, hLc, hmr, hg1, hg2, hbW⟩ := mine_world HRi.out
        have HM : Hid (RdB W (some ⟨g, 0, none⟩) (N) (wheel f len) ∧ (N) ≤ c ∧ MRow W g (N) ∧ wr.heap.size ≤ g ∧ g < W.heap.size ∧ Below wr.heap.size wr W ∧ RdB W (some ⟨w1.heap.size, 0, none⟩) (N) (wheel f len)) := ⟨hrd, hLc, hmr, hg1, hg2, hbW, HRi.out.below hbW⟩
        clear hrd hLc hmr hg1 hg2 hbW
        clear hgo
        go_wp2_with (first
          | (go_at_call 18; refine (from_bad _ _ _ _ hbad HM.out.1.1).mono ?_; rintro e w3 ⟨rfl, hb3⟩; have H3 : Hid (Below W.heap.size W w3) := hb3; clear hb3)
          | (go_at_call 19; refine (rfrom_bad _ _ _ _ hbad HM.out.1.1).mono ?_; rintro e w4 ⟨rfl, hb4⟩; have H4 : Hid (Tail w g (N) w4) := (Tail.next (Tail.next ⟨HM.out.2.2.1, HBI.out.trans (HM.out.2.2.2.2.2.1.mono HBI.out.size), Nat.le_trans HBI.out.size HM.out.2.2.2.1⟩ HM.out.2.2.2.2.1 H3.out) (Nat.lt_of_lt_of_le HM.out.2.2.2.2.1 H3.out.size) hb4); clear hb4))
        go_loopw [14] (fun i X => ∃ k : Nat, k ≤ N ∧ i = .int .i64 k ∧ Tail w g (N) X) (fun i _ => N - (intOf i).toNat)
        case atStart => exact ⟨0, by omega, rfl, H4.out⟩
        case round =>
          obtain ⟨k2, hk2, rfl, hX2⟩ := hrel
          have HX2 : Hid (Tail w g (N) _) := hX2
          by_cases hlt2 : k2 < N
          · obtain ⟨⟨v0, y0⟩, y1⟩ := hX2.row.at hlt2
            have y2 : (0 : Int) ≤ (k2 : Int) := by omega
            have y3 : (k2 : Int) < (((N : Nat) : Int)) := by omega
            clear hX2
            go_wp2
            go_roundw
            case rel => exact ⟨k2 + 1, by omega, by go_num, HX2.out.step _⟩
            case measure => simp [intOf]; omega
          · have y3 : ¬ (k2 : Int) < (((N : Nat) : Int)) := by omega
            clear hX2
            go_wp2
            go_ret
            exact ⟨by simp, HX2.out.below⟩
end diskFroms
end Go.Proofs.Ythkpohlgekfnjaa
