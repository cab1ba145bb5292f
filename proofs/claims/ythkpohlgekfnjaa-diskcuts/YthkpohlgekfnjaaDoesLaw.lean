/-
  The walk of the law on scripts.
-/
import Derived.Test.YthkpohlgekfnjaaDoesAll
namespace Go.Proofs.Ythkpohlgekfnjaa
open Go.ChangeShapes Go.WideShapes Go.ChangeAt Go.RowKit
attribute [local go_sem ↓] loadSec_seal storeSec_seal eqlSec_seal zeroSec
attribute [local go_sem] loadSec_run storeSec_run rowAt_at rowAt_old rowAt_drew rowAt_drewN roomSec_new roomAt_old roomAt_drew roomAt_drewN putSec_new putRow_past rowSec_put size_put putRow_drew putRow_drewN alloc_drewN setCell_drewN sec_size
namespace diskDoes
set_option linter.unusedVariables false

theorem walk_none (n : Int) (v : Value) (w : World) (h : isSizeB n = false) : Calls Try.prog 3 #[.int .i64 n, v] w fun e w' => e = .returned (.bool true) ∧ Below w.heap.size w w' := by
  go_enter Try.func3, Try.ntmps3
  go_wp2_with (first
    | (go_at_call 11; refine (rnew_none _ _ h).mono ?_; rintro e w3 ⟨rfl, b1⟩; have H3 : Hid (Below w.heap.size w w3) := H2.out.trans (b1.mono H2.out.size); clear b1)
    | (go_at_call 10; refine (new_none _ _ h).mono ?_; rintro e w2 ⟨rfl, b1⟩; have H2 : Hid (Below w.heap.size w w2) := H1.out.trans (b1.mono H1.out.size); clear b1)
    | (go_at_call 9; refine (shown_any _).mono ?_; rintro e w1 ⟨rfl, b1⟩; have H1 : Hid (Below w.heap.size w w1) := b1; clear b1))
  go_ret
  exact ⟨rfl, H3.out⟩
set_option maxHeartbeats 8000000 in
set_option maxRecDepth 20000 in
theorem walk_some (n : Nat) (a : Option Addr) (len cap : Nat) (g : Nat → St) (w : World) (n0 : 8 ≤ n) (n1 : n ≤ 1024) (hr : RdSt w a len g) : Calls Try.prog 3 #[.int .i64 (n : Int), .slice a len cap] w fun e w' => e = .returned (.bool true) ∧ Below w.heap.size w w' := by
  have hlm : (len : Int) ≤ 9223372036854775807 := by have := hr.1; unfold maxLen at this; omega
  have HC : Hid (RdSt w a len g) := hr
  clear hr
  go_enter Try.func3, Try.ntmps3
  go_wp2_with (first
    | (go_at_call 11; refine (rnew_some n _ n0 n1).mono ?_; rintro e w3 ⟨r, R, rfl, hR, hn, hm, hF, hf, hb⟩; have H3 : Hid (∃ D R, Pair w w1.heap.size d D r R w3 ∧ D.n = n) := ⟨D, R, pair_start H1.out H2.out.1 H2.out.2.2.1 H2.out.2.2.2.1 H2.out.2.2.2.2.1 H2.out.2.2.2.2.2.1 H2.out.2.2.2.2.2.2 hR (hn.trans H2.out.2.1.symm) hm (fun i hi => hF i (by rw [H2.out.2.1] at hi; exact hi)) hf hb, H2.out.2.1⟩; clear hR hn hm hF hf hb)
    | (go_at_call 10; refine (new_some n _ n0 n1).mono ?_; rintro e w2 ⟨d, D, rfl, hR, hn, hm, hS, hF, hfr, hb⟩; have H2 : Hid (Rep w2 d D ∧ D.n = n ∧ D.m = 0 ∧ D.S = (fun _ _ => 0) ∧ D.F = (fun _ _ => 0) ∧ D.fresh d w1.heap.size ∧ Below w1.heap.size w1 w2) := ⟨hR, hn, hm, hS, hF, hfr, hb⟩; clear hR hn hm hS hF hfr hb)
    | (go_at_call 9; refine (shown_any _).mono ?_; rintro e w1 ⟨rfl, b1⟩; have H1 : Hid (Below w.heap.size w w1) := b1; clear b1))
  go_loopw [10] (fun i X => ∃ k : Nat, k ≤ len ∧ i = .int .i64 k ∧ ∃ D R, Pair w w1.heap.size d D r R X ∧ D.n = n) (fun i _ => len - (intOf i).toNat)
  case atStart => exact ⟨0, by omega, rfl, H3.out⟩
  case round =>
    obtain ⟨k, hk, rfl, D, R, hP, hDn⟩ := hrel
    have HP : Hid (Pair w w1.heap.size d D r R wr ∧ D.n = n) := ⟨hP, hDn⟩
    by_cases hlt : k < len
    · have hcc : ∃ b off, a = some ⟨b, off, none⟩ ∧ (g k).Ok ∧ wr.cell? ⟨b, off + k * 5, none⟩ = some (.int .i64 (g k).Kind) ∧ wr.cell? ⟨b, off + k * 5 + 1, none⟩ = some (.int .i64 (g k).N) ∧ wr.cell? ⟨b, off + k * 5 + 2, none⟩ = some (.int .u8 (g k).Fill) ∧ wr.cell? ⟨b, off + k * 5 + 3, none⟩ = some (.int .u8 (g k).Mark) ∧ wr.cell? ⟨b, off + k * 5 + 4, none⟩ = some (.int .i64 (g k).Long) := by
        rcases HC.out.2 with h0 | ⟨b, off, e, hb, hc⟩
        · omega
        · obtain ⟨ok, c0, c1, c2, c3, c4⟩ := hc k hlt
          have hB : ∀ j, wr.cell? ⟨b, j, none⟩ = w.cell? ⟨b, j, none⟩ := fun j => hP.below.cell (p := ⟨b, j, none⟩) hb
          exact ⟨b, off, e, ok, (hB _).trans c0, (hB _).trans c1, (hB _).trans c2, (hB _).trans c3, (hB _).trans c4⟩
      obtain ⟨b, off, rfl, ok, c0, c1, c2, c3, c4⟩ := hcc
      have HOk : Hid _ := ok
      have q0 : (0 : Int) ≤ (k : Int) := by omega
      have q1 : (k : Int) < (len : Int) := by omega
      clear hP hDn ok HC
      go_wp2_with (go_at_call 12; refine (does_any w w1.heap.size d D r R (g k) _ HP.out.1 HOk.out).mono ?_; rintro e w4 ⟨rfl, E, Q, hPE, hEn⟩; have H4 : Hid (∃ D R, Pair w w1.heap.size d D r R w4 ∧ D.n = n) := ⟨E, Q, hPE, hEn.trans HP.out.2⟩; clear hPE hEn)
      go_roundw
      case rel => exact ⟨k + 1, by omega, by go_num, H4.out⟩
      case measure => simp [intOf]; omega
    · have q1 : ¬ (k : Int) < (len : Int) := by omega
      have htn := HP.out.1.tie.n
      have htm := HP.out.1.tie.m
      have hm4 := HP.out.1.rd.m1
      have HT : Hid (R.n = D.n ∧ R.m = D.m ∧ D.m ≤ 4096) := ⟨htn, htm, hm4⟩
      clear hP HC htn htm hm4
      go_wp2_with (first
        | (go_at_call 13; refine (writes_any d D _ HP.out.1.rd).mono ?_; rintro e w5 ⟨gl, rfl, hc5, hg5, hl5, hb5⟩; have H5 : Hid (Pair w w1.heap.size d D r R w5 ∧ (∀ k, k < D.m → w5.cell? ⟨gl, k, none⟩ = some (.int .i64 (D.wn k))) ∧ gl < w5.heap.size) := ⟨HP.out.1.next hb5, hc5, hl5⟩; clear hc5 hg5 hl5 hb5)
        | (go_at_call 14; refine (rwrites_any r R _ H5.out.1.rr).mono ?_; rintro e w6 ⟨aw, cw, he, hc6, hb6⟩; rw [HT.out.2.1] at he hc6; obtain rfl := he; have H6 : Hid (Pair w w1.heap.size d D r R w6 ∧ (∀ k, k < D.m → w6.cell? ⟨gl, k, none⟩ = some (.int .i64 (D.wn k))) ∧ gl < w6.heap.size ∧ (∀ k, k < D.m → ∃ g, aw = some ⟨g, 0, none⟩ ∧ w6.cell? ⟨g, k, none⟩ = some (.int .i64 (D.wn k)) ∧ g < w6.heap.size)) := ⟨H5.out.1.next hb6, fun k hk => (hb6.cell (p := ⟨gl, k, none⟩) H5.out.2.2).trans (H5.out.2.1 k hk), Nat.lt_of_lt_of_le H5.out.2.2 hb6.size, fun k hk => by obtain ⟨g, e1, e2, e3⟩ := hc6 k hk; exact ⟨g, e1, by rw [← HP.out.1.tie.wn k hk]; exact e2, e3⟩⟩; clear hc6 hb6))
      go_loopw [14, 15] (fun v i X => ∃ k : Nat, k ≤ D.m ∧ i = .int .i64 k ∧ v = .bool true ∧ Below w6.heap.size w6 X) (fun _ i _ => D.m - (intOf i).toNat)
      case atStart => exact ⟨0, by omega, rfl, by simp, Below.refl _ _⟩
      case round =>
        obtain ⟨k2, hk2, rfl, rfl, hb7⟩ := hrel
        have HB7 : Hid (Below w6.heap.size w6 wr) := hb7
        have hm4 := HT.out.2.2
        by_cases hlt2 : k2 < D.m
        · obtain ⟨gw, rfl, y1, y2⟩ := H6.out.2.2.2 k2 hlt2
          have y3 : wr.cell? ⟨gw, k2, none⟩ = some (.int .i64 (D.wn k2)) := (hb7.cell (p := ⟨gw, k2, none⟩) y2).trans y1
          have y4 : wr.cell? ⟨gl, k2, none⟩ = some (.int .i64 (D.wn k2)) := (hb7.cell (p := ⟨gl, k2, none⟩) H6.out.2.2.1).trans (H6.out.2.1 k2 hlt2)
          have z0 : (0 : Int) ≤ (k2 : Int) := by omega
          have z1 : (k2 : Int) < (D.m : Int) := by omega
          clear hb7 y1 y2
          go_wp2
          go_quiet (fail)
          go_wp2
          go_roundw
          case rel => exact ⟨k2 + 1, by omega, by go_num, by simp, bdrewN HB7.out _⟩
          case measure => simp [intOf]; omega
        · have z1 : ¬ (k2 : Int) < (D.m : Int) := by omega
          have HP7 : Hid (Pair w w1.heap.size d D r R wr) := H6.out.1.next hb7
          obtain ⟨fa, fc, wa, wc, e1, e2, c0, c1, hrl⟩ := HP7.out.rr.parts
          have hDn' := HP.out.2
          clear hb7 e1 e2 c0
          go_wp2_with (first
            | (go_at_call 15; refine (rcut_good r R R.m (cutS D D.m) _ HP7.out.rr (Nat.le_refl _) (by rw [HT.out.1, HP.out.2]; exact n0) (fun i hi => ⟨by rw [HT.out.2.1]; exact last_cut HP7.out.tie (by rw [← HT.out.1]; exact hi) _ (Nat.le_refl _), cut_bytes HP7.out.rd (by rw [← HT.out.1]; exact hi) _ (Nat.le_refl _)⟩)).mono ?_; rintro e w8 ⟨he, hb8⟩; rw [HT.out.1, cut_img HP7.out.tie] at he; obtain rfl := he; have HP8 : Hid (Pair w w1.heap.size d D r R w8) := HP7.out.next hb8; clear hb8)
            | (go_at_call 16; refine (sectors_any d D _ HP8.out.rd).mono ?_; rintro e w9 ⟨he, hb9⟩; rw [HP.out.2] at he; obtain rfl := he; have HP9 : Hid (Pair w w1.heap.size d D r R w9) := HP8.out.next hb9; clear hb9)
            | (go_at_call 17; refine (image_any d D _ HP9.out.rd).mono ?_; rintro e wi ⟨gi, ci, rfl, hri, _, _, hbi⟩; have hqi := conv_str ci hri; rw [HP.out.2] at hqi; have HPi : Hid (Pair w w1.heap.size d D r R wi) := HP9.out.next hbi; clear hri hbi))
          go_ret
          exact ⟨by simp, HPi.out.below⟩
end diskDoes
end Go.Proofs.Ythkpohlgekfnjaa
