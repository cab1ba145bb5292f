/-
  A part of the walk of the law on what was written last.
-/
import Derived.Test.YthkpohlgekfnjaaLastW
import Derived.Deep.Light
import Derived.Deep.RegionHeld
namespace Go.Proofs.Ythkpohlgekfnjaa
open Go.ChangeShapes Go.WideShapes Go.ChangeAt Go.RowKit
attribute [local go_sem ↓] loadSec_seal storeSec_seal eqlSec_seal zeroSec
attribute [local go_sem] loadSec_run storeSec_run rowAt_at rowAt_old rowAt_drew rowAt_drewN roomSec_new roomAt_old roomAt_drew roomAt_drewN putSec_new putRow_past rowSec_put size_put putRow_drew putRow_drewN alloc_drewN setCell_drewN sec_size
namespace diskLast
set_option linter.unusedVariables false
attribute [local go_sem] drew_heap' drewN_heap'
set_option maxHeartbeats 8000000 in
set_option maxRecDepth 20000 in
theorem high_in (n m : Int) (one two : St) (w : World) (ho : one.Ok) (ht : two.Ok) (nx : 16 ≤ n) (m0 : 0 ≤ m) (m1 : m < 16) (hne : ¬ n = m) : Calls Try.prog 6 #[.int .i64 n, .int .i64 m, one.val, two.val] w fun e w' => e = .returned (.bool true) ∧ Below w.heap.size w w' := by
  have nh0 : (0 : Int) ≤ n := by omega
  have nh1 : decide (n < 16) = false := decide_eq_false (by omega)
  have nh2 : ¬ n < 16 := by omega
  have np : placeE n 16 = 31 := place_out (by omega)
  have nv : ∀ g, readV n 16 g = .slice none 0 0 := fun g => by unfold readV; rw [if_pos (by omega)]
  have mp : placeE m 16 = 0 := by unfold placeE; rw [if_neg (by omega)]
  have mv : ∀ g, readV m 16 g = .slice (some ⟨g, 0, none⟩) 1024 1024 := fun g => by unfold readV; rw [if_neg (by omega)]
  have HN : Hid (placeE n 16 = _ ∧ ∀ g, readV n 16 g = _) := ⟨np, nv⟩
  have HM : Hid (placeE m 16 = _ ∧ ∀ g, readV m 16 g = _) := ⟨mp, mv⟩
  clear mp mv
  clear np nv
  go_enter Try.func6, Try.ntmps6
  go_wp2_with (first
    | (go_at_call 22; have hx := HG2; clear hx; refine (filled_last one _).mono ?_; rintro e w9 ⟨g5, rfl, hB, hg, hb⟩; have HF1 : Hid (Sta w w1.heap.size w.heap.size (w.heap.size + 1) b one two E2 w9 ∧ Got n 16 g3 (E2.S n.toNat) w9 ∧ Got m 16 g4 (E2.S m.toNat) w9 ∧ D.after E1 n (fOf one) ∧ E1.after E2 m (fOf two) ∧ E1.n = 16 ∧ D.n = 16) := ⟨HG2.out.1.next hb, HG2.out.2.1.next hb, HG2.out.2.2.1.next hb, HG2.out.2.2.2⟩; have HFF : Hid (BRow w9 g5 1024 (fOf one) ∧ Sta w w1.heap.size w.heap.size (w.heap.size + 1) b one two E2 w9 ∧ Got n 16 g3 (E2.S n.toNat) w9 ∧ Got m 16 g4 (E2.S m.toNat) w9 ∧ D.after E1 n (fOf one) ∧ E1.after E2 m (fOf two) ∧ E1.n = 16 ∧ D.n = 16) := ⟨hB, HF1.out⟩; clear a0 a1 a2 a3 a4 c0 c1 c2 c3 c4; obtain ⟨⟨a0, a1, a2, a3, a4⟩, c0, c1, c2, c3, c4⟩ := HF1.out.1.two.cells; clear hB hg hb HG2)
    | (go_at_call 23; have hx := HG1; clear hx; refine (read_both b E2 m _ HG1.out.1.rep).mono ?_; rintro e w8 ⟨g4, he, hG, hb⟩; rw [HG1.out.1.n, HM.out.1, HM.out.2] at he; obtain rfl := he; have HG2 : Hid (Sta w w1.heap.size w.heap.size (w.heap.size + 1) b one two E2 w8 ∧ Got n 16 g3 (E2.S n.toNat) w8 ∧ Got m 16 g4 (E2.S m.toNat) w8 ∧ D.after E1 n (fOf one) ∧ E1.after E2 m (fOf two) ∧ E1.n = 16 ∧ D.n = 16) := ⟨HG1.out.1.next hb, HG1.out.2.1.next hb, fun h0 h1 => ⟨(hG h0 (by rw [HG1.out.1.n]; exact h1)).2.1, (hG h0 (by rw [HG1.out.1.n]; exact h1)).2.2.2⟩, HG1.out.2.2⟩; clear a0 a1 a2 a3 a4 c0 c1 c2 c3 c4; obtain ⟨⟨a0, a1, a2, a3, a4⟩, c0, c1, c2, c3, c4⟩ := HG2.out.1.two.cells; clear hG hb HG1)
    | (go_at_call 23; have hx := HE2; clear hx; refine (read_both b E2 n _ HE2.out.1.rep).mono ?_; rintro e w7 ⟨g3, he, hG, hb⟩; rw [HE2.out.1.n, HN.out.1, HN.out.2] at he; obtain rfl := he; have HG1 : Hid (Sta w w1.heap.size w.heap.size (w.heap.size + 1) b one two E2 w7 ∧ Got n 16 g3 (E2.S n.toNat) w7 ∧ D.after E1 n (fOf one) ∧ E1.after E2 m (fOf two) ∧ E1.n = 16 ∧ D.n = 16) := ⟨HE2.out.1.next hb, fun h0 h1 => ⟨(hG h0 (by rw [HE2.out.1.n]; exact h1)).2.1, (hG h0 (by rw [HE2.out.1.n]; exact h1)).2.2.2⟩, HE2.out.2⟩; clear hG hb HE2)
    | (go_at_call 21; have hx := HA2; clear hx; refine (write_both b E1 m _ _ (fOf two) _ HA2.out.2.1.rep (by have := HA2.out.2.2.1; omega) (HA2.out.1.rd (by decide) (fOf_byte ht))).mono ?_; rintro e w6 ⟨E2, he, hR, haf, htt, hmu, hfx⟩; rw [HA2.out.2.1.n, HM.out.1] at he; obtain rfl := he; have HE2 : Hid (Sta w w1.heap.size w.heap.size (w.heap.size + 1) b one two E2 w6 ∧ D.after E1 n (fOf one) ∧ E1.after E2 m (fOf two) ∧ E1.n = 16 ∧ D.n = 16) := ⟨HA2.out.2.1.wrote hR haf.1 htt hmu hfx, HA2.out.2.2.2.1, haf, HA2.out.2.1.n, HA2.out.2.2.2.2⟩; clear a0 a1 a2 a3 a4 c0 c1 c2 c3 c4; obtain ⟨⟨a0, a1, a2, a3, a4⟩, c0, c1, c2, c3, c4⟩ := HE2.out.1.two.cells; clear hR haf htt hmu hfx HA2)
    | (go_at_call 22; have hx := HE1; clear hx; refine (filled_last two _).mono ?_; rintro e w5 ⟨g2, rfl, hB, hg, hb⟩; have HA2 : Hid (BRow w5 g2 1024 (fOf two) ∧ Sta w w1.heap.size w.heap.size (w.heap.size + 1) b one two E1 w5 ∧ E1.m ≤ 1 ∧ D.after E1 n (fOf one) ∧ D.n = 16) := ⟨hB, HE1.out.1.next hb, HE1.out.2⟩; clear hB hg hb HE1)
    | (go_at_call 21; have hx := HA; clear hx; refine (write_both b D n _ _ (fOf one) _ HA.out.2.1.rep (by rw [HA.out.2.2]; omega) (HA.out.1.rd (by decide) (fOf_byte ho))).mono ?_; rintro e w4 ⟨E1, he, hR, haf, htt, hmu, hfx⟩; rw [HA.out.2.1.n, HN.out.1] at he; obtain rfl := he; have HE1 : Hid (Sta w w1.heap.size w.heap.size (w.heap.size + 1) b one two E1 w4 ∧ E1.m ≤ 1 ∧ D.after E1 n (fOf one) ∧ D.n = 16) := ⟨HA.out.2.1.wrote hR haf.1 htt hmu hfx, by have := haf.2.1; have := HA.out.2.2; omega, haf, HA.out.2.1.n⟩; clear a0 a1 a2 a3 a4 c0 c1 c2 c3 c4; obtain ⟨⟨a0, a1, a2, a3, a4⟩, c0, c1, c2, c3, c4⟩ := HE1.out.1.two.cells; clear hR haf htt hmu hfx HA)
    | (go_at_call 22; have hx := HS0; clear hx; refine (filled_last one _).mono ?_; rintro e w3 ⟨g1, rfl, hB, hg, hb⟩; have HA : Hid (BRow w3 g1 1024 (fOf one) ∧ Sta w w1.heap.size w.heap.size (w.heap.size + 1) b one two D w3 ∧ D.m = 0) := ⟨hB, HS0.out.1.next hb, HS0.out.2⟩; clear hB hg hb HS0)
    | (go_at_call 10; refine (new_some 16 _ (by omega) (by omega)).mono ?_; rintro e w2 ⟨b, D, rfl, hR, hn, hm, hS0, hF0, hfr, hb⟩; have HS0 : Hid (Sta w w1.heap.size w.heap.size (w.heap.size + 1) b one two D _ ∧ D.m = 0) := ⟨Sta.begin HS.out hR hn hfr hb, hm⟩; obtain ⟨k1, k2, k3, k4⟩ := begin_cells HS.out hb; obtain ⟨⟨a0, a1, a2, a3, a4⟩, c0, c1, c2, c3, c4⟩ := HS0.out.1.two.cells; clear hR hn hm hS0 hF0 hfr hb HS)
    | (go_at_call 9; refine (shown_any _).mono ?_; rintro e w1 ⟨rfl, hs⟩; have HS : Hid _ := hs; clear hs))
  have HG4 : Hid (rowAt w9 g4 = some (sec (fOf two)) ∧ g4 < w9.heap.size) := ⟨by have h1 := (HFF.out.2.2.2.1 m0 m1).1; rw [after_last HFF.out.2.2.2.2.2.1 HFF.out.2.2.2.2.2.2.1 m0 m1] at h1; exact h1, (HFF.out.2.2.2.1 m0 m1).2⟩
  have hxb : ∀ X : World, Below w9.heap.size w9 X → (convert 43 9 (.slice (some ⟨g4, 0, none⟩) 1024 1024)).run Try.prog X = .ok (.string (strF (fOf two) 1024)) X := fun X hX => conv_sec (f := fOf two) HG4.out.1 (fOf_byte ht) (hX.block g4 HG4.out.2)
  have FULL : Hid (∀ X : World, Below w9.heap.size w9 X → (convert 43 9 (.slice (some ⟨g4, 0, none⟩) 1024 1024)).run Try.prog X = .ok (.string (strF (fOf two) 1024)) X ∧ X.cell? ⟨w.heap.size + 1, 0, none⟩ = some (.int .i64 two.Kind) ∧ X.cell? ⟨w.heap.size + 1, 1, none⟩ = some (.int .i64 two.N) ∧ X.cell? ⟨w.heap.size + 1, 2, none⟩ = some (.int .u8 two.Fill) ∧ X.cell? ⟨w.heap.size + 1, 3, none⟩ = some (.int .u8 two.Mark) ∧ X.cell? ⟨w.heap.size + 1, 4, none⟩ = some (.int .i64 (-1))) := fun X hX => ⟨hxb X hX, (HFF.out.2.1.next hX).two.cells.2⟩
  clear hxb a0 a1 a2 a3 a4 c0 c1 c2 c3 c4
  first | (go_region_held (fun X => Below w9.heap.size w9 X ∧ (convert 43 9 (.slice (some ⟨g4, 0, none⟩) 1024 1024)).run Try.prog X = .ok (.string (strF (fOf two) 1024)) X ∧ X.cell? ⟨w.heap.size + 1, 0, none⟩ = some (.int .i64 two.Kind) ∧ X.cell? ⟨w.heap.size + 1, 1, none⟩ = some (.int .i64 two.N) ∧ X.cell? ⟨w.heap.size + 1, 2, none⟩ = some (.int .u8 two.Fill) ∧ X.cell? ⟨w.heap.size + 1, 3, none⟩ = some (.int .u8 two.Mark) ∧ X.cell? ⟨w.heap.size + 1, 4, none⟩ = some (.int .i64 (-1))) (first | exact ⟨(Below.refl _ w9).drew, FULL.out _ (Below.refl _ w9).drew⟩ | exact stepD (W := w9) (R := fun X => (convert 43 9 (.slice (some ⟨g4, 0, none⟩) 1024 1024)).run Try.prog X = .ok (.string (strF (fOf two) 1024)) X ∧ X.cell? ⟨w.heap.size + 1, 0, none⟩ = some (.int .i64 two.Kind) ∧ X.cell? ⟨w.heap.size + 1, 1, none⟩ = some (.int .i64 two.N) ∧ X.cell? ⟨w.heap.size + 1, 2, none⟩ = some (.int .u8 two.Fill) ∧ X.cell? ⟨w.heap.size + 1, 3, none⟩ = some (.int .u8 two.Mark) ∧ X.cell? ⟨w.heap.size + 1, 4, none⟩ = some (.int .i64 (-1))) FULL.out (by assumption) | exact stepL (W := w9) (R := fun X => (convert 43 9 (.slice (some ⟨g4, 0, none⟩) 1024 1024)).run Try.prog X = .ok (.string (strF (fOf two) 1024)) X ∧ X.cell? ⟨w.heap.size + 1, 0, none⟩ = some (.int .i64 two.Kind) ∧ X.cell? ⟨w.heap.size + 1, 1, none⟩ = some (.int .i64 two.N) ∧ X.cell? ⟨w.heap.size + 1, 2, none⟩ = some (.int .u8 two.Fill) ∧ X.cell? ⟨w.heap.size + 1, 3, none⟩ = some (.int .u8 two.Mark) ∧ X.cell? ⟨w.heap.size + 1, 4, none⟩ = some (.int .i64 (-1))) FULL.out (by assumption) (by assumption)) (first | (go_at_call 22; refine (filled_last two _).mono ?_; rintro e wz ⟨gz, rfl, hBz, hgz, hbz⟩; have hzz : ∀ X : World, X.heap = wz.heap → (convert 43 9 (.slice (some ⟨gz, 0, none⟩) 1024 1024)).run Try.prog X = .ok (.string (strF (fOf two) 1024)) X := fun X hX => conv_row hBz ht (heap_eq hX gz); have zz0 := hzz wz rfl; have zz1 := hzz wz.drew rfl; have zz2 := hzz wz.drew.drew rfl; have zz3 := hzz wz.drew.drew.drew rfl; have zz4 := hzz wz.drew.drew.drew.drew rfl; have zz5 := hzz wz.drew.drew.drew.drew.drew rfl; clear hBz hgz hzz))) | fail
  all_goals
    rename_i hh
    have HH := hh.1
    clear hh
    go_wp2
    go_ret
    exact ⟨by simp, HFF.out.2.1.below.trans (HH.mono HFF.out.2.1.below.size)⟩
end diskLast
end Go.Proofs.Ythkpohlgekfnjaa
