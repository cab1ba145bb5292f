/-
  The walk of the law on cuts.
-/
import Derived.Test.YthkpohlgekfnjaaDoesAll
import Derived.Test.YthkpohlgekfnjaaCut
namespace Go.Proofs.Ythkpohlgekfnjaa
open Go.ChangeShapes Go.WideShapes Go.ChangeAt Go.RowKit
attribute [local go_sem ↓] loadSec_seal storeSec_seal eqlSec_seal zeroSec
attribute [local go_sem] loadSec_run storeSec_run rowAt_at rowAt_old rowAt_drew rowAt_drewN roomSec_new roomAt_old roomAt_drew roomAt_drewN putSec_new putRow_past rowSec_put size_put putRow_drew putRow_drewN alloc_drewN setCell_drewN sec_size
namespace diskCuts
set_option linter.unusedVariables false

theorem pair_tou {w X Y : World} {B d r : Nat} {D : Dk} {R : Rk} {M : Nat → Prop} (h : Pair w B d D r R X) (ht : Tou M X Y) (hM : ∀ x, M x → ¬ (D.mut d x ∨ D.fix x) ∧ ¬ R.mut r x ∧ B ≤ x) : Pair w B d D r R Y where
  rd := h.rd.tou ht fun x hx => (hM x hx).1
  rr := h.rr.keep ht.size fun x hx => ht.block x (h.rr.lt x hx) (fun hm => (hM x hm).2.1 hx)
  tie := h.tie
  ap1 := h.ap1
  f1 := h.f1
  f2 := h.f2
  below := h.below.trans ((ht.below h.B1 fun x hx => (hM x hx).2.2).mono h.B0)
  B0 := h.B0
  B1 := Nat.le_trans h.B1 ht.size
theorem walk_none (n at_ : Int) (v : Value) (w : World) (h : isSizeB n = false) : Calls Try.prog 5 #[.int .i64 n, v, .int .i64 at_] w fun e w' => e = .returned (.bool true) ∧ Below w.heap.size w w' := by
  go_enter Try.func5, Try.ntmps5
  go_wp2_with (first
    | (go_at_call 11; refine (rnew_none _ _ h).mono ?_; rintro e w3 ⟨rfl, b1⟩; have H3 : Hid (Below w.heap.size w w3) := H2.out.trans (b1.mono H2.out.size); clear b1)
    | (go_at_call 10; refine (new_none _ _ h).mono ?_; rintro e w2 ⟨rfl, b1⟩; have H2 : Hid (Below w.heap.size w w2) := H1.out.trans (b1.mono H1.out.size); clear b1)
    | (go_at_call 9; refine (shown_any _).mono ?_; rintro e w1 ⟨rfl, b1⟩; have H1 : Hid (Below w.heap.size w w1) := b1; clear b1))
  go_ret
  exact ⟨rfl, H3.out⟩
set_option maxHeartbeats 8000000 in
set_option maxRecDepth 20000 in
theorem walk_some (n : Nat) (at_ : Int) (a : Option Addr) (len cap : Nat) (g : Nat → St) (w : World) (n0 : 8 ≤ n) (n1 : n ≤ 1024) (hr : RdSt w a len g) : Calls Try.prog 5 #[.int .i64 (n : Int), .slice a len cap, .int .i64 at_] w fun e w' => e = .returned (.bool true) ∧ Below w.heap.size w w' := by
  have hlm : (len : Int) ≤ 9223372036854775807 := by have := hr.1; unfold maxLen at this; omega
  have HC : Hid (RdSt w a len g) := hr
  clear hr
  go_enter Try.func5, Try.ntmps5
  go_wp2_with (first
    | (go_at_call 11; refine (rnew_some n _ n0 n1).mono ?_; rintro e w3 ⟨r, R, rfl, hR, hn, hm, hF, hf, hb⟩; have H3 : Hid (∃ D R, Pair w w1.heap.size d D r R w3 ∧ D.n = n) := ⟨D, R, pair_start H1.out H2.out.1 H2.out.2.2.1 H2.out.2.2.2.1 H2.out.2.2.2.2.1 H2.out.2.2.2.2.2.1 H2.out.2.2.2.2.2.2 hR (hn.trans H2.out.2.1.symm) hm (fun i hi => hF i (by rw [H2.out.2.1] at hi; exact hi)) hf hb, H2.out.2.1⟩; clear hR hn hm hF hf hb)
    | (go_at_call 10; refine (new_some n _ n0 n1).mono ?_; rintro e w2 ⟨d, D, rfl, hR, hn, hm, hS, hF, hfr, hb⟩; have H2 : Hid (Rep w2 d D ∧ D.n = n ∧ D.m = 0 ∧ D.S = (fun _ _ => 0) ∧ D.F = (fun _ _ => 0) ∧ D.fresh d w1.heap.size ∧ Below w1.heap.size w1 w2) := ⟨hR, hn, hm, hS, hF, hfr, hb⟩; clear hR hn hm hS hF hfr hb)
    | (go_at_call 9; refine (shown_any _).mono ?_; rintro e w1 ⟨rfl, b1⟩; have H1 : Hid (Below w.heap.size w w1) := b1; clear b1))
  go_loopw [12] (fun i X => ∃ k : Nat, k ≤ len ∧ i = .int .i64 k ∧ ∃ D R, Pair w w1.heap.size d D r R X ∧ D.n = n) (fun i _ => len - (intOf i).toNat)
  case atStart => exact ⟨0, by omega, rfl, H3.out⟩
  case round =>
    obtain ⟨k, hk, rfl, D, R, hP, hDn⟩ := hrel
    have HP : Hid (Pair w w1.heap.size d D r R wr ∧ D.n = n) := ⟨hP, hDn⟩
    by_cases hlt : k < len
    · have hcc : ∃ b off, a = some ⟨b, off, none⟩ ∧ (g k).Ok ∧ wr.cell? ⟨b, off + k * 5, none⟩ = some (.int .i64 (g k).Kind) ∧ wr.cell? ⟨b, off + k * 5 + 1, none⟩ = some (.int .i64 (g k).N) ∧ wr.cell? ⟨b, off + k * 5 + 2, none⟩ = some (.int .u8 (g k).Fill) ∧ wr.cell? ⟨b, off + k * 5 + 3, none⟩ = some (.int .u8 (g k).Mark) ∧ wr.cell? ⟨b, off + k * 5 + 4, none⟩ = some (.int .i64 (g k).Long) := by
        rcases HC.out.2 with h0 | ⟨b, off, e, hb, hc⟩
        · omega
        · obtain ⟨ok, c0, c1, c2, c3, c4⟩ := hc k hlt
          have hB : ∀ j, wr.cell? ⟨b, j, none⟩ = w.cell? ⟨b, j, none⟩ := fun j => hP.below.cell (p := ⟨b, j, none⟩) hb
          exact ⟨b, off, e, ok, (hB _).trans c0, (hB _).trans c1, (hB _).trans c2, (hB _).trans c3, (hB _).trans c4⟩
      obtain ⟨b, off, rfl, ok, c0, c1, c2, c3, c4⟩ := hcc
      have HOk : Hid _ := ok
      have q0 : (0 : Int) ≤ (k : Int) := by omega
      have q1 : (k : Int) < (len : Int) := by omega
      clear hP hDn ok HC
      go_wp2_with (go_at_call 12; refine (does_any w w1.heap.size d D r R (g k) _ HP.out.1 HOk.out).mono ?_; rintro e w4 ⟨rfl, E, Q, hPE, hEn⟩; have H4 : Hid (∃ D R, Pair w w1.heap.size d D r R w4 ∧ D.n = n) := ⟨E, Q, hPE, hEn.trans HP.out.2⟩; clear hPE hEn)
      go_roundw
      case rel => exact ⟨k + 1, by omega, by go_num, H4.out⟩
      case measure => simp [intOf]; omega
    · have q1 : ¬ (k : Int) < (len : Int) := by omega
      have HT : Hid (R.n = D.n ∧ R.m = D.m ∧ D.m ≤ 4096 ∧ 8 ≤ D.n ∧ D.n ≤ 1024) := ⟨hP.tie.n, hP.tie.m, hP.rd.m1, hP.rd.n0, hP.rd.n1⟩
      clear hP HC hDn
      by_cases hat : 0 ≤ at_ ∧ at_ ≤ D.m
      · obtain ⟨K, rfl⟩ : ∃ K : Nat, at_ = K := ⟨at_.toNat, by omega⟩
        have hK : K ≤ D.m := by omega
        have HK : Hid (K ≤ D.m) := hK
        clear hat hK
        go_wp2_with (first
          | (go_at_call 13; have hx := H13; clear hx; refine (writes_any c _ _ H13.out.1).mono ?_; rintro e wz ⟨gz, he, _, _, _, hbz⟩; have he2 : e = .returned (.slice (some ⟨gz, 0, none⟩) (E.m + 1) (E.m + 1)) := he; rw [H4.out.2.2.2.1] at he2; obtain rfl := he2; have H14 : Hid (Below w.heap.size w wz) := H13.out.2.trans (hbz.mono H13.out.2.size); clear hbz he)
          | (go_at_call 17; have hx := H12; clear hx; refine (image_any c2 E2 _ H12.out.2.2).mono ?_; rintro e w13 ⟨gi4, ci4, he, hri, _, _, hb⟩; rw [H11.out.2.2.2.1] at he hri; obtain rfl := he; have hq13 := conv_str ci4 hri; rw [H11.out.2.2.2.2, cut_img H12.out.1.tie] at hq13; have H13 : Hid (Rep w13 c (E.wrote 1 PP (fillF 33 0) gg cc) ∧ Below w.heap.size w w13) := ⟨H12.out.2.1.below hb, H12.out.1.below.trans (hb.mono H12.out.1.below.size)⟩; clear hri hb)
          | (go_at_call 17; have hx := H11; clear hx; refine (image_any d D _ H11.out.1.rd).mono ?_; rintro e w12 ⟨gi3, ci3, rfl, hri, _, _, hb⟩; have hq12 := conv_str ci3 hri; have H12 : Hid (Pair w w1.heap.size d D r R w12 ∧ Rep w12 c (E.wrote 1 PP (fillF 33 0) gg cc) ∧ Rep w12 c2 E2) := ⟨H11.out.1.next hb, H11.out.2.1.below hb, H11.out.2.2.1.below hb⟩; clear hri hb)
          | (go_at_call 20; have hx := H10; clear hx; refine (cut_good d D D.m _ H10.out.1.rd (Nat.le_refl _)).mono ?_; rintro e w11 ⟨c2, E2, rfl, hR, hn, hm, hS, hmu, hb⟩; have H11 : Hid (Pair w w1.heap.size d D r R w11 ∧ Rep w11 c (E.wrote 1 PP (fillF 33 0) gg cc) ∧ Rep w11 c2 E2 ∧ E2.n = D.n ∧ E2.S = cutS D D.m) := ⟨H10.out.1.next hb, H10.out.2.below hb, hR, hn, hS⟩; clear hR hn hm hS hmu hb)
          | (go_at_call 13; have hx := H9; clear hx; refine (writes_any d D _ H9.out.1.rd).mono ?_; rintro e w10 ⟨gl, rfl, _, _, _, hb⟩; have H10 : Hid (Pair w w1.heap.size d D r R w10 ∧ Rep w10 c (E.wrote 1 PP (fillF 33 0) gg cc)) := ⟨H9.out.1.next hb, H9.out.2.below hb⟩; clear hb)
          | (go_at_call 21; have hx := H8; clear hx; refine (write_good c E 1 _ _ (fillF 33 0) _ H8.out.2.1 (by rw [H4.out.2.2.1]; have := HT.out.2.2.2.1; omega) (by rw [H4.out.2.2.2.1]; omega) (H8.out.2.2.rd (by decide) (fill_byte (by omega) (by omega) _))).mono ?_; rintro e w9 ⟨PP, gg, cc, rfl, hR, ht, _, _⟩; have H9 : Hid (Pair w w1.heap.size d D r R w9 ∧ Rep w9 c (E.wrote 1 PP (fillF 33 0) gg cc)) := ⟨pair_tou H8.out.1 ht (fun x hx => ⟨fun hd => by have := HP.out.1.rd.lt x hd; have := H4.out.2.2.2.2.2 x hx; omega, fun hr => by have := HP.out.1.rr.lt x hr; have := H4.out.2.2.2.2.2 x hx; omega, by have := H4.out.2.2.2.2.2 x hx; have := HP.out.1.B1; omega⟩), hR⟩; clear hR ht)
          | (go_at_call 22; have hx := H7; clear hx; refine (filled_at 0 0 33 0 (-1) _).mono ?_; rintro e w8 ⟨g8, he, hB, _, hb⟩; have e24 : fillN (-1) = 1024 := rfl; rw [e24] at he hB; obtain rfl := he; have H8 : Hid (Pair w w1.heap.size d D r R w8 ∧ Rep w8 c E ∧ BRow w8 g8 1024 (fillF 33 0)) := ⟨H7.out.1.next hb, H7.out.2.below hb, hB⟩; clear hB hb e24)
          | (go_at_call 17; have hx := H6; clear hx; refine (image_any c E _ H6.out.2).mono ?_; rintro e w7 ⟨gi2, ci2, he, hri, _, _, hb⟩; rw [H4.out.2.2.1] at he hri; obtain rfl := he; have hq7 := conv_str ci2 hri; rw [H4.out.2.2.2.2.1] at hq7; have H7 : Hid (Pair w w1.heap.size d D r R w7 ∧ Rep w7 c E) := ⟨H6.out.1.next hb, H6.out.2.below hb⟩; clear hri hb)
          | (go_at_call 17; have hx := H5; clear hx; refine (image_any d D _ H5.out.1.rd).mono ?_; rintro e w6 ⟨gi1, ci1, rfl, hri, _, _, hb⟩; have hq6 := conv_str ci1 hri; have H6 : Hid (Pair w w1.heap.size d D r R w6 ∧ Rep w6 c E) := ⟨H5.out.1.next hb, H5.out.2.below hb⟩; clear hri hb)
          | (go_at_call 15; have hx := H4; clear hx; refine (rcut_good r R K (cutS D K) _ H4.out.1.rr (by rw [HT.out.2.1]; exact HK.out) (by rw [HT.out.1]; exact HT.out.2.2.2.1) (fun i hi => ⟨last_cut H4.out.1.tie (by rw [← HT.out.1]; exact hi) _ HK.out, cut_bytes H4.out.1.rd (by rw [← HT.out.1]; exact hi) _ HK.out⟩)).mono ?_; rintro e w5 ⟨he, hb⟩; rw [HT.out.1] at he; obtain rfl := he; have H5 : Hid (Pair w w1.heap.size d D r R w5 ∧ Rep w5 c E) := ⟨H4.out.1.next hb, H4.out.2.1.below hb⟩; clear hb)
          | (go_at_call 20; have hx := HP; clear hx; refine (cut_good d D K _ HP.out.1.rd HK.out).mono ?_; rintro e w4 ⟨c, E, rfl, hR, hn, hm, hS, hmu, hb⟩; have H4 : Hid (Pair w w1.heap.size d D r R w4 ∧ Rep w4 c E ∧ E.n = D.n ∧ E.m = 0 ∧ E.S = cutS D K ∧ (∀ x, E.mut c x → wr.heap.size ≤ x)) := ⟨HP.out.1.next hb, hR, hn, hm, hS, hmu⟩; clear hR hn hm hS hmu hb))
        go_ret
        exact ⟨by simp, H14.out⟩
      · have hbd : at_ < 0 ∨ (0 ≤ at_ ∧ (D.m : Int) < at_) := by omega
        have HBd : Hid _ := hbd
        clear hat hbd
        go_wp2_with (first
          | (go_at_call 15; refine (rcut_bad r R at_ _ H4.out.rr (by rw [HT.out.2.1]; exact HBd.out)).mono ?_; rintro e w5 ⟨rfl, hb⟩; have H5 : Hid (Pair w w1.heap.size d D r R w5) := H4.out.next hb; clear hb)
          | (go_at_call 20; refine (cut_bad d D at_ _ HP.out.1.rd HBd.out).mono ?_; rintro e w4 ⟨rfl, hb⟩; have H4 : Hid (Pair w w1.heap.size d D r R w4) := HP.out.1.next hb; clear hb))
        go_ret
        exact ⟨rfl, H5.out.below⟩
end diskCuts
end Go.Proofs.Ythkpohlgekfnjaa
