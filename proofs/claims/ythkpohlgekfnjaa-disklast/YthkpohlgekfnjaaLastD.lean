/-
  A part of the walk of the law on what was written last.
-/
import Derived.Test.YthkpohlgekfnjaaLastW
import Derived.Deep.Light
import Derived.Deep.RegionHeld
namespace Go.Proofs.Ythkpohlgekfnjaa
open Go.ChangeShapes Go.WideShapes Go.ChangeAt Go.RowKit
attribute [local go_sem ↓] loadSec_seal storeSec_seal eqlSec_seal zeroSec
attribute [local go_sem] loadSec_run storeSec_run rowAt_at rowAt_old rowAt_drew rowAt_drewN roomSec_new roomAt_old roomAt_drew roomAt_drewN putSec_new putRow_past rowSec_put size_put putRow_drew putRow_drewN alloc_drewN setCell_drewN sec_size
namespace diskLast
set_option linter.unusedVariables false
attribute [local go_sem] drew_heap' drewN_heap'
set_option maxHeartbeats 8000000 in
set_option maxRecDepth 20000 in
theorem in_low (n m : Int) (one two : St) (w : World) (ho : one.Ok) (ht : two.Ok) (n0 : 0 ≤ n) (n1 : n < 16) (mx : m < 0) (hne : ¬ n = m) : Calls Try.prog 6 #[.int .i64 n, .int .i64 m, one.val, two.val] w fun e w' => e = .returned (.bool true) ∧ Below w.heap.size w w' := by
  have np : placeE n 16 = 0 := by unfold placeE; rw [if_neg (by omega)]
  have nv : ∀ g, readV n 16 g = .slice (some ⟨g, 0, none⟩) 1024 1024 := fun g => by unfold readV; rw [if_neg (by omega)]
  have mp : placeE m 16 = 31 := place_out (by omega)
  have mv : ∀ g, readV m 16 g = .slice none 0 0 := fun g => by unfold readV; rw [if_pos (by omega)]
  have HN : Hid (placeE n 16 = _ ∧ ∀ g, readV n 16 g = _) := ⟨np, nv⟩
  have HM : Hid (placeE m 16 = _ ∧ ∀ g, readV m 16 g = _) := ⟨mp, mv⟩
  clear mp mv
  clear np nv
  go_enter Try.func6, Try.ntmps6
  go_wp2_with (first
    | (go_at_call 22; have hx := HG2; clear hx; refine (filled_last one _).mono ?_; rintro e w9 ⟨g5, rfl, hB, hg, hb⟩; have HF1 : Hid (Sta w w1.heap.size w.heap.size (w.heap.size + 1) b one two E2 w9 ∧ Got n 16 g3 (E2.S n.toNat) w9 ∧ Got m 16 g4 (E2.S m.toNat) w9 ∧ D.after E1 n (fOf one) ∧ E1.after E2 m (fOf two) ∧ E1.n = 16 ∧ D.n = 16) := ⟨HG2.out.1.next hb, HG2.out.2.1.next hb, HG2.out.2.2.1.next hb, HG2.out.2.2.2⟩; have HFF : Hid (BRow w9 g5 1024 (fOf one) ∧ Sta w w1.heap.size w.heap.size (w.heap.size + 1) b one two E2 w9 ∧ Got n 16 g3 (E2.S n.toNat) w9 ∧ Got m 16 g4 (E2.S m.toNat) w9 ∧ D.after E1 n (fOf one) ∧ E1.after E2 m (fOf two) ∧ E1.n = 16 ∧ D.n = 16) := ⟨hB, HF1.out⟩; clear a0 a1 a2 a3 a4 c0 c1 c2 c3 c4; obtain ⟨⟨a0, a1, a2, a3, a4⟩, c0, c1, c2, c3, c4⟩ := HF1.out.1.two.cells; clear hB hg hb HG2)
    | (go_at_call 23; have hx := HG1; clear hx; refine (read_both b E2 m _ HG1.out.1.rep).mono ?_; rintro e w8 ⟨g4, he, hG, hb⟩; rw [HG1.out.1.n, HM.out.1, HM.out.2] at he; obtain rfl := he; have HG2 : Hid (Sta w w1.heap.size w.heap.size (w.heap.size + 1) b one two E2 w8 ∧ Got n 16 g3 (E2.S n.toNat) w8 ∧ Got m 16 g4 (E2.S m.toNat) w8 ∧ D.after E1 n (fOf one) ∧ E1.after E2 m (fOf two) ∧ E1.n = 16 ∧ D.n = 16) := ⟨HG1.out.1.next hb, HG1.out.2.1.next hb, fun h0 h1 => ⟨(hG h0 (by rw [HG1.out.1.n]; exact h1)).2.1, (hG h0 (by rw [HG1.out.1.n]; exact h1)).2.2.2⟩, HG1.out.2.2⟩; clear a0 a1 a2 a3 a4 c0 c1 c2 c3 c4; obtain ⟨⟨a0, a1, a2, a3, a4⟩, c0, c1, c2, c3, c4⟩ := HG2.out.1.two.cells; clear hG hb HG1)
    | (go_at_call 23; have hx := HE2; clear hx; refine (read_both b E2 n _ HE2.out.1.rep).mono ?_; rintro e w7 ⟨g3, he, hG, hb⟩; rw [HE2.out.1.n, HN.out.1, HN.out.2] at he; obtain rfl := he; have HG1 : Hid (Sta w w1.heap.size w.heap.size (w.heap.size + 1) b one two E2 w7 ∧ Got n 16 g3 (E2.S n.toNat) w7 ∧ D.after E1 n (fOf one) ∧ E1.after E2 m (fOf two) ∧ E1.n = 16 ∧ D.n = 16) := ⟨HE2.out.1.next hb, fun h0 h1 => ⟨(hG h0 (by rw [HE2.out.1.n]; exact h1)).2.1, (hG h0 (by rw [HE2.out.1.n]; exact h1)).2.2.2⟩, HE2.out.2⟩; clear hG hb HE2)
    | (go_at_call 21; have hx := HA2; clear hx; refine (write_both b E1 m _ _ (fOf two) _ HA2.out.2.1.rep (by have := HA2.out.2.2.1; omega) (HA2.out.1.rd (by decide) (fOf_byte ht))).mono ?_; rintro e w6 ⟨E2, he, hR, haf, htt, hmu, hfx⟩; rw [HA2.out.2.1.n, HM.out.1] at he; obtain rfl := he; have HE2 : Hid (Sta w w1.heap.size w.heap.size (w.heap.size + 1) b one two E2 w6 ∧ D.after E1 n (fOf one) ∧ E1.after E2 m (fOf two) ∧ E1.n = 16 ∧ D.n = 16) := ⟨HA2.out.2.1.wrote hR haf.1 htt hmu hfx, HA2.out.2.2.2.1, haf, HA2.out.2.1.n, HA2.out.2.2.2.2⟩; clear a0 a1 a2 a3 a4 c0 c1 c2 c3 c4; obtain ⟨⟨a0, a1, a2, a3, a4⟩, c0, c1, c2, c3, c4⟩ := HE2.out.1.two.cells; clear hR haf htt hmu hfx HA2)
    | (go_at_call 22; have hx := HE1; clear hx; refine (filled_last two _).mono ?_; rintro e w5 ⟨g2, rfl, hB, hg, hb⟩; have HA2 : Hid (BRow w5 g2 1024 (fOf two) ∧ Sta w w1.heap.size w.heap.size (w.heap.size + 1) b one two E1 w5 ∧ E1.m ≤ 1 ∧ D.after E1 n (fOf one) ∧ D.n = 16) := ⟨hB, HE1.out.1.next hb, HE1.out.2⟩; clear hB hg hb HE1)
    | (go_at_call 21; have hx := HA; clear hx; refine (write_both b D n _ _ (fOf one) _ HA.out.2.1.rep (by rw [HA.out.2.2]; omega) (HA.out.1.rd (by decide) (fOf_byte ho))).mono ?_; rintro e w4 ⟨E1, he, hR, haf, htt, hmu, hfx⟩; rw [HA.out.2.1.n, HN.out.1] at he; obtain rfl := he; have HE1 : Hid (Sta w w1.heap.size w.heap.size (w.heap.size + 1) b one two E1 w4 ∧ E1.m ≤ 1 ∧ D.after E1 n (fOf one) ∧ D.n = 16) := ⟨HA.out.2.1.wrote hR haf.1 htt hmu hfx, by have := haf.2.1; have := HA.out.2.2; omega, haf, HA.out.2.1.n⟩; clear a0 a1 a2 a3 a4 c0 c1 c2 c3 c4; obtain ⟨⟨a0, a1, a2, a3, a4⟩, c0, c1, c2, c3, c4⟩ := HE1.out.1.two.cells; clear hR haf htt hmu hfx HA)
    | (go_at_call 22; have hx := HS0; clear hx; refine (filled_last one _).mono ?_; rintro e w3 ⟨g1, rfl, hB, hg, hb⟩; have HA : Hid (BRow w3 g1 1024 (fOf one) ∧ Sta w w1.heap.size w.heap.size (w.heap.size + 1) b one two D w3 ∧ D.m = 0) := ⟨hB, HS0.out.1.next hb, HS0.out.2⟩; clear hB hg hb HS0)
    | (go_at_call 10; refine (new_some 16 _ (by omega) (by omega)).mono ?_; rintro e w2 ⟨b, D, rfl, hR, hn, hm, hS0, hF0, hfr, hb⟩; have HS0 : Hid (Sta w w1.heap.size w.heap.size (w.heap.size + 1) b one two D _ ∧ D.m = 0) := ⟨Sta.begin HS.out hR hn hfr hb, hm⟩; obtain ⟨k1, k2, k3, k4⟩ := begin_cells HS.out hb; obtain ⟨⟨a0, a1, a2, a3, a4⟩, c0, c1, c2, c3, c4⟩ := HS0.out.1.two.cells; clear hR hn hm hS0 hF0 hfr hb HS)
    | (go_at_call 9; refine (shown_any _).mono ?_; rintro e w1 ⟨rfl, hs⟩; have HS : Hid _ := hs; clear hs))
  have HG3 : Hid (rowAt w9 g3 = some (sec (fOf one)) ∧ g3 < w9.heap.size) := ⟨by have h1 := (HFF.out.2.2.1 n0 n1).1; rw [after_same HFF.out.2.2.2.2.1 HFF.out.2.2.2.2.2.1 HFF.out.2.2.2.2.2.2.2 n0 n1, if_neg hne] at h1; exact h1, (HFF.out.2.2.1 n0 n1).2⟩
  have hxa : ∀ X : World, Below w9.heap.size w9 X → (convert 43 9 (.slice (some ⟨g3, 0, none⟩) 1024 1024)).run Try.prog X = .ok (.string (strF (fOf one) 1024)) X := fun X hX => conv_sec (f := fOf one) HG3.out.1 (fOf_byte ho) (hX.block g3 HG3.out.2)
  have hxf : ∀ X : World, Below w9.heap.size w9 X → (convert 43 9 (.slice (some ⟨g5, 0, none⟩) 1024 1024)).run Try.prog X = .ok (.string (strF (fOf one) 1024)) X := fun X hX => conv_row HFF.out.1 ho (hX.block g5 HFF.out.1.lt)
  have ya0 := hxa w9 (Below.refl _ w9)
  have ya1 := hxa w9.drew (Below.refl _ w9).drew
  have ya2 := hxa w9.drew.drew (Below.refl _ w9).drew.drew
  have ya3 := hxa w9.drew.drew.drew (Below.refl _ w9).drew.drew.drew
  have ya4 := hxa w9.drew.drew.drew.drew (Below.refl _ w9).drew.drew.drew.drew
  have ya5 := hxa w9.drew.drew.drew.drew.drew (Below.refl _ w9).drew.drew.drew.drew.drew
  have yf0 := hxf w9 (Below.refl _ w9)
  have yf1 := hxf w9.drew (Below.refl _ w9).drew
  have yf2 := hxf w9.drew.drew (Below.refl _ w9).drew.drew
  have yf3 := hxf w9.drew.drew.drew (Below.refl _ w9).drew.drew.drew
  have yf4 := hxf w9.drew.drew.drew.drew (Below.refl _ w9).drew.drew.drew.drew
  have yf5 := hxf w9.drew.drew.drew.drew.drew (Below.refl _ w9).drew.drew.drew.drew.drew
  clear hxa hxf
  go_region
  all_goals
    go_wp2
    go_ret
    exact ⟨by simp, by first | exact HFF.out.2.1.below | exact HFF.out.2.1.below.drew | exact HFF.out.2.1.below.drew.drew⟩
set_option maxHeartbeats 8000000 in
set_option maxRecDepth 20000 in
theorem in_high (n m : Int) (one two : St) (w : World) (ho : one.Ok) (ht : two.Ok) (n0 : 0 ≤ n) (n1 : n < 16) (mx : 16 ≤ m) (hne : ¬ n = m) : Calls Try.prog 6 #[.int .i64 n, .int .i64 m, one.val, two.val] w fun e w' => e = .returned (.bool true) ∧ Below w.heap.size w w' := by
  have mh0 : (0 : Int) ≤ m := by omega
  have mh1 : decide (m < 16) = false := decide_eq_false (by omega)
  have mh2 : ¬ m < 16 := by omega
  have np : placeE n 16 = 0 := by unfold placeE; rw [if_neg (by omega)]
  have nv : ∀ g, readV n 16 g = .slice (some ⟨g, 0, none⟩) 1024 1024 := fun g => by unfold readV; rw [if_neg (by omega)]
  have mp : placeE m 16 = 31 := place_out (by omega)
  have mv : ∀ g, readV m 16 g = .slice none 0 0 := fun g => by unfold readV; rw [if_pos (by omega)]
  have HN : Hid (placeE n 16 = _ ∧ ∀ g, readV n 16 g = _) := ⟨np, nv⟩
  have HM : Hid (placeE m 16 = _ ∧ ∀ g, readV m 16 g = _) := ⟨mp, mv⟩
  clear mp mv
  clear np nv
  go_enter Try.func6, Try.ntmps6
  go_wp2_with (first
    | (go_at_call 22; have hx := HG2; clear hx; refine (filled_last one _).mono ?_; rintro e w9 ⟨g5, rfl, hB, hg, hb⟩; have HF1 : Hid (Sta w w1.heap.size w.heap.size (w.heap.size + 1) b one two E2 w9 ∧ Got n 16 g3 (E2.S n.toNat) w9 ∧ Got m 16 g4 (E2.S m.toNat) w9 ∧ D.after E1 n (fOf one) ∧ E1.after E2 m (fOf two) ∧ E1.n = 16 ∧ D.n = 16) := ⟨HG2.out.1.next hb, HG2.out.2.1.next hb, HG2.out.2.2.1.next hb, HG2.out.2.2.2⟩; have HFF : Hid (BRow w9 g5 1024 (fOf one) ∧ Sta w w1.heap.size w.heap.size (w.heap.size + 1) b one two E2 w9 ∧ Got n 16 g3 (E2.S n.toNat) w9 ∧ Got m 16 g4 (E2.S m.toNat) w9 ∧ D.after E1 n (fOf one) ∧ E1.after E2 m (fOf two) ∧ E1.n = 16 ∧ D.n = 16) := ⟨hB, HF1.out⟩; clear a0 a1 a2 a3 a4 c0 c1 c2 c3 c4; obtain ⟨⟨a0, a1, a2, a3, a4⟩, c0, c1, c2, c3, c4⟩ := HF1.out.1.two.cells; clear hB hg hb HG2)
    | (go_at_call 23; have hx := HG1; clear hx; refine (read_both b E2 m _ HG1.out.1.rep).mono ?_; rintro e w8 ⟨g4, he, hG, hb⟩; rw [HG1.out.1.n, HM.out.1, HM.out.2] at he; obtain rfl := he; have HG2 : Hid (Sta w w1.heap.size w.heap.size (w.heap.size + 1) b one two E2 w8 ∧ Got n 16 g3 (E2.S n.toNat) w8 ∧ Got m 16 g4 (E2.S m.toNat) w8 ∧ D.after E1 n (fOf one) ∧ E1.after E2 m (fOf two) ∧ E1.n = 16 ∧ D.n = 16) := ⟨HG1.out.1.next hb, HG1.out.2.1.next hb, fun h0 h1 => ⟨(hG h0 (by rw [HG1.out.1.n]; exact h1)).2.1, (hG h0 (by rw [HG1.out.1.n]; exact h1)).2.2.2⟩, HG1.out.2.2⟩; clear a0 a1 a2 a3 a4 c0 c1 c2 c3 c4; obtain ⟨⟨a0, a1, a2, a3, a4⟩, c0, c1, c2, c3, c4⟩ := HG2.out.1.two.cells; clear hG hb HG1)
    | (go_at_call 23; have hx := HE2; clear hx; refine (read_both b E2 n _ HE2.out.1.rep).mono ?_; rintro e w7 ⟨g3, he, hG, hb⟩; rw [HE2.out.1.n, HN.out.1, HN.out.2] at he; obtain rfl := he; have HG1 : Hid (Sta w w1.heap.size w.heap.size (w.heap.size + 1) b one two E2 w7 ∧ Got n 16 g3 (E2.S n.toNat) w7 ∧ D.after E1 n (fOf one) ∧ E1.after E2 m (fOf two) ∧ E1.n = 16 ∧ D.n = 16) := ⟨HE2.out.1.next hb, fun h0 h1 => ⟨(hG h0 (by rw [HE2.out.1.n]; exact h1)).2.1, (hG h0 (by rw [HE2.out.1.n]; exact h1)).2.2.2⟩, HE2.out.2⟩; clear hG hb HE2)
    | (go_at_call 21; have hx := HA2; clear hx; refine (write_both b E1 m _ _ (fOf two) _ HA2.out.2.1.rep (by have := HA2.out.2.2.1; omega) (HA2.out.1.rd (by decide) (fOf_byte ht))).mono ?_; rintro e w6 ⟨E2, he, hR, haf, htt, hmu, hfx⟩; rw [HA2.out.2.1.n, HM.out.1] at he; obtain rfl := he; have HE2 : Hid (Sta w w1.heap.size w.heap.size (w.heap.size + 1) b one two E2 w6 ∧ D.after E1 n (fOf one) ∧ E1.after E2 m (fOf two) ∧ E1.n = 16 ∧ D.n = 16) := ⟨HA2.out.2.1.wrote hR haf.1 htt hmu hfx, HA2.out.2.2.2.1, haf, HA2.out.2.1.n, HA2.out.2.2.2.2⟩; clear a0 a1 a2 a3 a4 c0 c1 c2 c3 c4; obtain ⟨⟨a0, a1, a2, a3, a4⟩, c0, c1, c2, c3, c4⟩ := HE2.out.1.two.cells; clear hR haf htt hmu hfx HA2)
    | (go_at_call 22; have hx := HE1; clear hx; refine (filled_last two _).mono ?_; rintro e w5 ⟨g2, rfl, hB, hg, hb⟩; have HA2 : Hid (BRow w5 g2 1024 (fOf two) ∧ Sta w w1.heap.size w.heap.size (w.heap.size + 1) b one two E1 w5 ∧ E1.m ≤ 1 ∧ D.after E1 n (fOf one) ∧ D.n = 16) := ⟨hB, HE1.out.1.next hb, HE1.out.2⟩; clear hB hg hb HE1)
    | (go_at_call 21; have hx := HA; clear hx; refine (write_both b D n _ _ (fOf one) _ HA.out.2.1.rep (by rw [HA.out.2.2]; omega) (HA.out.1.rd (by decide) (fOf_byte ho))).mono ?_; rintro e w4 ⟨E1, he, hR, haf, htt, hmu, hfx⟩; rw [HA.out.2.1.n, HN.out.1] at he; obtain rfl := he; have HE1 : Hid (Sta w w1.heap.size w.heap.size (w.heap.size + 1) b one two E1 w4 ∧ E1.m ≤ 1 ∧ D.after E1 n (fOf one) ∧ D.n = 16) := ⟨HA.out.2.1.wrote hR haf.1 htt hmu hfx, by have := haf.2.1; have := HA.out.2.2; omega, haf, HA.out.2.1.n⟩; clear a0 a1 a2 a3 a4 c0 c1 c2 c3 c4; obtain ⟨⟨a0, a1, a2, a3, a4⟩, c0, c1, c2, c3, c4⟩ := HE1.out.1.two.cells; clear hR haf htt hmu hfx HA)
    | (go_at_call 22; have hx := HS0; clear hx; refine (filled_last one _).mono ?_; rintro e w3 ⟨g1, rfl, hB, hg, hb⟩; have HA : Hid (BRow w3 g1 1024 (fOf one) ∧ Sta w w1.heap.size w.heap.size (w.heap.size + 1) b one two D w3 ∧ D.m = 0) := ⟨hB, HS0.out.1.next hb, HS0.out.2⟩; clear hB hg hb HS0)
    | (go_at_call 10; refine (new_some 16 _ (by omega) (by omega)).mono ?_; rintro e w2 ⟨b, D, rfl, hR, hn, hm, hS0, hF0, hfr, hb⟩; have HS0 : Hid (Sta w w1.heap.size w.heap.size (w.heap.size + 1) b one two D _ ∧ D.m = 0) := ⟨Sta.begin HS.out hR hn hfr hb, hm⟩; obtain ⟨k1, k2, k3, k4⟩ := begin_cells HS.out hb; obtain ⟨⟨a0, a1, a2, a3, a4⟩, c0, c1, c2, c3, c4⟩ := HS0.out.1.two.cells; clear hR hn hm hS0 hF0 hfr hb HS)
    | (go_at_call 9; refine (shown_any _).mono ?_; rintro e w1 ⟨rfl, hs⟩; have HS : Hid _ := hs; clear hs))
  have HG3 : Hid (rowAt w9 g3 = some (sec (fOf one)) ∧ g3 < w9.heap.size) := ⟨by have h1 := (HFF.out.2.2.1 n0 n1).1; rw [after_same HFF.out.2.2.2.2.1 HFF.out.2.2.2.2.2.1 HFF.out.2.2.2.2.2.2.2 n0 n1, if_neg hne] at h1; exact h1, (HFF.out.2.2.1 n0 n1).2⟩
  have hxa : ∀ X : World, Below w9.heap.size w9 X → (convert 43 9 (.slice (some ⟨g3, 0, none⟩) 1024 1024)).run Try.prog X = .ok (.string (strF (fOf one) 1024)) X := fun X hX => conv_sec (f := fOf one) HG3.out.1 (fOf_byte ho) (hX.block g3 HG3.out.2)
  have hxf : ∀ X : World, Below w9.heap.size w9 X → (convert 43 9 (.slice (some ⟨g5, 0, none⟩) 1024 1024)).run Try.prog X = .ok (.string (strF (fOf one) 1024)) X := fun X hX => conv_row HFF.out.1 ho (hX.block g5 HFF.out.1.lt)
  have ya0 := hxa w9 (Below.refl _ w9)
  have ya1 := hxa w9.drew (Below.refl _ w9).drew
  have ya2 := hxa w9.drew.drew (Below.refl _ w9).drew.drew
  have ya3 := hxa w9.drew.drew.drew (Below.refl _ w9).drew.drew.drew
  have ya4 := hxa w9.drew.drew.drew.drew (Below.refl _ w9).drew.drew.drew.drew
  have ya5 := hxa w9.drew.drew.drew.drew.drew (Below.refl _ w9).drew.drew.drew.drew.drew
  have yf0 := hxf w9 (Below.refl _ w9)
  have yf1 := hxf w9.drew (Below.refl _ w9).drew
  have yf2 := hxf w9.drew.drew (Below.refl _ w9).drew.drew
  have yf3 := hxf w9.drew.drew.drew (Below.refl _ w9).drew.drew.drew
  have yf4 := hxf w9.drew.drew.drew.drew (Below.refl _ w9).drew.drew.drew.drew
  have yf5 := hxf w9.drew.drew.drew.drew.drew (Below.refl _ w9).drew.drew.drew.drew.drew
  clear hxa hxf
  go_region
  all_goals
    go_wp2
    go_ret
    exact ⟨by simp, by first | exact HFF.out.2.1.below | exact HFF.out.2.1.below.drew | exact HFF.out.2.1.below.drew.drew⟩
set_option maxHeartbeats 8000000 in
set_option maxRecDepth 20000 in
theorem low_low (n m : Int) (one two : St) (w : World) (ho : one.Ok) (ht : two.Ok) (nx : n < 0) (mx : m < 0) (hne : ¬ n = m) : Calls Try.prog 6 #[.int .i64 n, .int .i64 m, one.val, two.val] w fun e w' => e = .returned (.bool true) ∧ Below w.heap.size w w' := by
  have np : placeE n 16 = 31 := place_out (by omega)
  have nv : ∀ g, readV n 16 g = .slice none 0 0 := fun g => by unfold readV; rw [if_pos (by omega)]
  have mp : placeE m 16 = 31 := place_out (by omega)
  have mv : ∀ g, readV m 16 g = .slice none 0 0 := fun g => by unfold readV; rw [if_pos (by omega)]
  have HN : Hid (placeE n 16 = _ ∧ ∀ g, readV n 16 g = _) := ⟨np, nv⟩
  have HM : Hid (placeE m 16 = _ ∧ ∀ g, readV m 16 g = _) := ⟨mp, mv⟩
  clear mp mv
  clear np nv
  go_enter Try.func6, Try.ntmps6
  go_wp2_with (first
    | (go_at_call 22; have hx := HG2; clear hx; refine (filled_last one _).mono ?_; rintro e w9 ⟨g5, rfl, hB, hg, hb⟩; have HF1 : Hid (Sta w w1.heap.size w.heap.size (w.heap.size + 1) b one two E2 w9 ∧ Got n 16 g3 (E2.S n.toNat) w9 ∧ Got m 16 g4 (E2.S m.toNat) w9 ∧ D.after E1 n (fOf one) ∧ E1.after E2 m (fOf two) ∧ E1.n = 16 ∧ D.n = 16) := ⟨HG2.out.1.next hb, HG2.out.2.1.next hb, HG2.out.2.2.1.next hb, HG2.out.2.2.2⟩; have HFF : Hid (BRow w9 g5 1024 (fOf one) ∧ Sta w w1.heap.size w.heap.size (w.heap.size + 1) b one two E2 w9 ∧ Got n 16 g3 (E2.S n.toNat) w9 ∧ Got m 16 g4 (E2.S m.toNat) w9 ∧ D.after E1 n (fOf one) ∧ E1.after E2 m (fOf two) ∧ E1.n = 16 ∧ D.n = 16) := ⟨hB, HF1.out⟩; clear a0 a1 a2 a3 a4 c0 c1 c2 c3 c4; obtain ⟨⟨a0, a1, a2, a3, a4⟩, c0, c1, c2, c3, c4⟩ := HF1.out.1.two.cells; clear hB hg hb HG2)
    | (go_at_call 23; have hx := HG1; clear hx; refine (read_both b E2 m _ HG1.out.1.rep).mono ?_; rintro e w8 ⟨g4, he, hG, hb⟩; rw [HG1.out.1.n, HM.out.1, HM.out.2] at he; obtain rfl := he; have HG2 : Hid (Sta w w1.heap.size w.heap.size (w.heap.size + 1) b one two E2 w8 ∧ Got n 16 g3 (E2.S n.toNat) w8 ∧ Got m 16 g4 (E2.S m.toNat) w8 ∧ D.after E1 n (fOf one) ∧ E1.after E2 m (fOf two) ∧ E1.n = 16 ∧ D.n = 16) := ⟨HG1.out.1.next hb, HG1.out.2.1.next hb, fun h0 h1 => ⟨(hG h0 (by rw [HG1.out.1.n]; exact h1)).2.1, (hG h0 (by rw [HG1.out.1.n]; exact h1)).2.2.2⟩, HG1.out.2.2⟩; clear a0 a1 a2 a3 a4 c0 c1 c2 c3 c4; obtain ⟨⟨a0, a1, a2, a3, a4⟩, c0, c1, c2, c3, c4⟩ := HG2.out.1.two.cells; clear hG hb HG1)
    | (go_at_call 23; have hx := HE2; clear hx; refine (read_both b E2 n _ HE2.out.1.rep).mono ?_; rintro e w7 ⟨g3, he, hG, hb⟩; rw [HE2.out.1.n, HN.out.1, HN.out.2] at he; obtain rfl := he; have HG1 : Hid (Sta w w1.heap.size w.heap.size (w.heap.size + 1) b one two E2 w7 ∧ Got n 16 g3 (E2.S n.toNat) w7 ∧ D.after E1 n (fOf one) ∧ E1.after E2 m (fOf two) ∧ E1.n = 16 ∧ D.n = 16) := ⟨HE2.out.1.next hb, fun h0 h1 => ⟨(hG h0 (by rw [HE2.out.1.n]; exact h1)).2.1, (hG h0 (by rw [HE2.out.1.n]; exact h1)).2.2.2⟩, HE2.out.2⟩; clear hG hb HE2)
    | (go_at_call 21; have hx := HA2; clear hx; refine (write_both b E1 m _ _ (fOf two) _ HA2.out.2.1.rep (by have := HA2.out.2.2.1; omega) (HA2.out.1.rd (by decide) (fOf_byte ht))).mono ?_; rintro e w6 ⟨E2, he, hR, haf, htt, hmu, hfx⟩; rw [HA2.out.2.1.n, HM.out.1] at he; obtain rfl := he; have HE2 : Hid (Sta w w1.heap.size w.heap.size (w.heap.size + 1) b one two E2 w6 ∧ D.after E1 n (fOf one) ∧ E1.after E2 m (fOf two) ∧ E1.n = 16 ∧ D.n = 16) := ⟨HA2.out.2.1.wrote hR haf.1 htt hmu hfx, HA2.out.2.2.2.1, haf, HA2.out.2.1.n, HA2.out.2.2.2.2⟩; clear a0 a1 a2 a3 a4 c0 c1 c2 c3 c4; obtain ⟨⟨a0, a1, a2, a3, a4⟩, c0, c1, c2, c3, c4⟩ := HE2.out.1.two.cells; clear hR haf htt hmu hfx HA2)
    | (go_at_call 22; have hx := HE1; clear hx; refine (filled_last two _).mono ?_; rintro e w5 ⟨g2, rfl, hB, hg, hb⟩; have HA2 : Hid (BRow w5 g2 1024 (fOf two) ∧ Sta w w1.heap.size w.heap.size (w.heap.size + 1) b one two E1 w5 ∧ E1.m ≤ 1 ∧ D.after E1 n (fOf one) ∧ D.n = 16) := ⟨hB, HE1.out.1.next hb, HE1.out.2⟩; clear hB hg hb HE1)
    | (go_at_call 21; have hx := HA; clear hx; refine (write_both b D n _ _ (fOf one) _ HA.out.2.1.rep (by rw [HA.out.2.2]; omega) (HA.out.1.rd (by decide) (fOf_byte ho))).mono ?_; rintro e w4 ⟨E1, he, hR, haf, htt, hmu, hfx⟩; rw [HA.out.2.1.n, HN.out.1] at he; obtain rfl := he; have HE1 : Hid (Sta w w1.heap.size w.heap.size (w.heap.size + 1) b one two E1 w4 ∧ E1.m ≤ 1 ∧ D.after E1 n (fOf one) ∧ D.n = 16) := ⟨HA.out.2.1.wrote hR haf.1 htt hmu hfx, by have := haf.2.1; have := HA.out.2.2; omega, haf, HA.out.2.1.n⟩; clear a0 a1 a2 a3 a4 c0 c1 c2 c3 c4; obtain ⟨⟨a0, a1, a2, a3, a4⟩, c0, c1, c2, c3, c4⟩ := HE1.out.1.two.cells; clear hR haf htt hmu hfx HA)
    | (go_at_call 22; have hx := HS0; clear hx; refine (filled_last one _).mono ?_; rintro e w3 ⟨g1, rfl, hB, hg, hb⟩; have HA : Hid (BRow w3 g1 1024 (fOf one) ∧ Sta w w1.heap.size w.heap.size (w.heap.size + 1) b one two D w3 ∧ D.m = 0) := ⟨hB, HS0.out.1.next hb, HS0.out.2⟩; clear hB hg hb HS0)
    | (go_at_call 10; refine (new_some 16 _ (by omega) (by omega)).mono ?_; rintro e w2 ⟨b, D, rfl, hR, hn, hm, hS0, hF0, hfr, hb⟩; have HS0 : Hid (Sta w w1.heap.size w.heap.size (w.heap.size + 1) b one two D _ ∧ D.m = 0) := ⟨Sta.begin HS.out hR hn hfr hb, hm⟩; obtain ⟨k1, k2, k3, k4⟩ := begin_cells HS.out hb; obtain ⟨⟨a0, a1, a2, a3, a4⟩, c0, c1, c2, c3, c4⟩ := HS0.out.1.two.cells; clear hR hn hm hS0 hF0 hfr hb HS)
    | (go_at_call 9; refine (shown_any _).mono ?_; rintro e w1 ⟨rfl, hs⟩; have HS : Hid _ := hs; clear hs))
  go_region
  all_goals
    go_wp2
    go_ret
    exact ⟨by simp, by first | exact HFF.out.2.1.below | exact HFF.out.2.1.below.drew | exact HFF.out.2.1.below.drew.drew⟩
set_option maxHeartbeats 8000000 in
set_option maxRecDepth 20000 in
theorem low_high (n m : Int) (one two : St) (w : World) (ho : one.Ok) (ht : two.Ok) (nx : n < 0) (mx : 16 ≤ m) (hne : ¬ n = m) : Calls Try.prog 6 #[.int .i64 n, .int .i64 m, one.val, two.val] w fun e w' => e = .returned (.bool true) ∧ Below w.heap.size w w' := by
  have mh0 : (0 : Int) ≤ m := by omega
  have mh1 : decide (m < 16) = false := decide_eq_false (by omega)
  have mh2 : ¬ m < 16 := by omega
  have np : placeE n 16 = 31 := place_out (by omega)
  have nv : ∀ g, readV n 16 g = .slice none 0 0 := fun g => by unfold readV; rw [if_pos (by omega)]
  have mp : placeE m 16 = 31 := place_out (by omega)
  have mv : ∀ g, readV m 16 g = .slice none 0 0 := fun g => by unfold readV; rw [if_pos (by omega)]
  have HN : Hid (placeE n 16 = _ ∧ ∀ g, readV n 16 g = _) := ⟨np, nv⟩
  have HM : Hid (placeE m 16 = _ ∧ ∀ g, readV m 16 g = _) := ⟨mp, mv⟩
  clear mp mv
  clear np nv
  go_enter Try.func6, Try.ntmps6
  go_wp2_with (first
    | (go_at_call 22; have hx := HG2; clear hx; refine (filled_last one _).mono ?_; rintro e w9 ⟨g5, rfl, hB, hg, hb⟩; have HF1 : Hid (Sta w w1.heap.size w.heap.size (w.heap.size + 1) b one two E2 w9 ∧ Got n 16 g3 (E2.S n.toNat) w9 ∧ Got m 16 g4 (E2.S m.toNat) w9 ∧ D.after E1 n (fOf one) ∧ E1.after E2 m (fOf two) ∧ E1.n = 16 ∧ D.n = 16) := ⟨HG2.out.1.next hb, HG2.out.2.1.next hb, HG2.out.2.2.1.next hb, HG2.out.2.2.2⟩; have HFF : Hid (BRow w9 g5 1024 (fOf one) ∧ Sta w w1.heap.size w.heap.size (w.heap.size + 1) b one two E2 w9 ∧ Got n 16 g3 (E2.S n.toNat) w9 ∧ Got m 16 g4 (E2.S m.toNat) w9 ∧ D.after E1 n (fOf one) ∧ E1.after E2 m (fOf two) ∧ E1.n = 16 ∧ D.n = 16) := ⟨hB, HF1.out⟩; clear a0 a1 a2 a3 a4 c0 c1 c2 c3 c4; obtain ⟨⟨a0, a1, a2, a3, a4⟩, c0, c1, c2, c3, c4⟩ := HF1.out.1.two.cells; clear hB hg hb HG2)
    | (go_at_call 23; have hx := HG1; clear hx; refine (read_both b E2 m _ HG1.out.1.rep).mono ?_; rintro e w8 ⟨g4, he, hG, hb⟩; rw [HG1.out.1.n, HM.out.1, HM.out.2] at he; obtain rfl := he; have HG2 : Hid (Sta w w1.heap.size w.heap.size (w.heap.size + 1) b one two E2 w8 ∧ Got n 16 g3 (E2.S n.toNat) w8 ∧ Got m 16 g4 (E2.S m.toNat) w8 ∧ D.after E1 n (fOf one) ∧ E1.after E2 m (fOf two) ∧ E1.n = 16 ∧ D.n = 16) := ⟨HG1.out.1.next hb, HG1.out.2.1.next hb, fun h0 h1 => ⟨(hG h0 (by rw [HG1.out.1.n]; exact h1)).2.1, (hG h0 (by rw [HG1.out.1.n]; exact h1)).2.2.2⟩, HG1.out.2.2⟩; clear a0 a1 a2 a3 a4 c0 c1 c2 c3 c4; obtain ⟨⟨a0, a1, a2, a3, a4⟩, c0, c1, c2, c3, c4⟩ := HG2.out.1.two.cells; clear hG hb HG1)
    | (go_at_call 23; have hx := HE2; clear hx; refine (read_both b E2 n _ HE2.out.1.rep).mono ?_; rintro e w7 ⟨g3, he, hG, hb⟩; rw [HE2.out.1.n, HN.out.1, HN.out.2] at he; obtain rfl := he; have HG1 : Hid (Sta w w1.heap.size w.heap.size (w.heap.size + 1) b one two E2 w7 ∧ Got n 16 g3 (E2.S n.toNat) w7 ∧ D.after E1 n (fOf one) ∧ E1.after E2 m (fOf two) ∧ E1.n = 16 ∧ D.n = 16) := ⟨HE2.out.1.next hb, fun h0 h1 => ⟨(hG h0 (by rw [HE2.out.1.n]; exact h1)).2.1, (hG h0 (by rw [HE2.out.1.n]; exact h1)).2.2.2⟩, HE2.out.2⟩; clear hG hb HE2)
    | (go_at_call 21; have hx := HA2; clear hx; refine (write_both b E1 m _ _ (fOf two) _ HA2.out.2.1.rep (by have := HA2.out.2.2.1; omega) (HA2.out.1.rd (by decide) (fOf_byte ht))).mono ?_; rintro e w6 ⟨E2, he, hR, haf, htt, hmu, hfx⟩; rw [HA2.out.2.1.n, HM.out.1] at he; obtain rfl := he; have HE2 : Hid (Sta w w1.heap.size w.heap.size (w.heap.size + 1) b one two E2 w6 ∧ D.after E1 n (fOf one) ∧ E1.after E2 m (fOf two) ∧ E1.n = 16 ∧ D.n = 16) := ⟨HA2.out.2.1.wrote hR haf.1 htt hmu hfx, HA2.out.2.2.2.1, haf, HA2.out.2.1.n, HA2.out.2.2.2.2⟩; clear a0 a1 a2 a3 a4 c0 c1 c2 c3 c4; obtain ⟨⟨a0, a1, a2, a3, a4⟩, c0, c1, c2, c3, c4⟩ := HE2.out.1.two.cells; clear hR haf htt hmu hfx HA2)
    | (go_at_call 22; have hx := HE1; clear hx; refine (filled_last two _).mono ?_; rintro e w5 ⟨g2, rfl, hB, hg, hb⟩; have HA2 : Hid (BRow w5 g2 1024 (fOf two) ∧ Sta w w1.heap.size w.heap.size (w.heap.size + 1) b one two E1 w5 ∧ E1.m ≤ 1 ∧ D.after E1 n (fOf one) ∧ D.n = 16) := ⟨hB, HE1.out.1.next hb, HE1.out.2⟩; clear hB hg hb HE1)
    | (go_at_call 21; have hx := HA; clear hx; refine (write_both b D n _ _ (fOf one) _ HA.out.2.1.rep (by rw [HA.out.2.2]; omega) (HA.out.1.rd (by decide) (fOf_byte ho))).mono ?_; rintro e w4 ⟨E1, he, hR, haf, htt, hmu, hfx⟩; rw [HA.out.2.1.n, HN.out.1] at he; obtain rfl := he; have HE1 : Hid (Sta w w1.heap.size w.heap.size (w.heap.size + 1) b one two E1 w4 ∧ E1.m ≤ 1 ∧ D.after E1 n (fOf one) ∧ D.n = 16) := ⟨HA.out.2.1.wrote hR haf.1 htt hmu hfx, by have := haf.2.1; have := HA.out.2.2; omega, haf, HA.out.2.1.n⟩; clear a0 a1 a2 a3 a4 c0 c1 c2 c3 c4; obtain ⟨⟨a0, a1, a2, a3, a4⟩, c0, c1, c2, c3, c4⟩ := HE1.out.1.two.cells; clear hR haf htt hmu hfx HA)
    | (go_at_call 22; have hx := HS0; clear hx; refine (filled_last one _).mono ?_; rintro e w3 ⟨g1, rfl, hB, hg, hb⟩; have HA : Hid (BRow w3 g1 1024 (fOf one) ∧ Sta w w1.heap.size w.heap.size (w.heap.size + 1) b one two D w3 ∧ D.m = 0) := ⟨hB, HS0.out.1.next hb, HS0.out.2⟩; clear hB hg hb HS0)
    | (go_at_call 10; refine (new_some 16 _ (by omega) (by omega)).mono ?_; rintro e w2 ⟨b, D, rfl, hR, hn, hm, hS0, hF0, hfr, hb⟩; have HS0 : Hid (Sta w w1.heap.size w.heap.size (w.heap.size + 1) b one two D _ ∧ D.m = 0) := ⟨Sta.begin HS.out hR hn hfr hb, hm⟩; obtain ⟨k1, k2, k3, k4⟩ := begin_cells HS.out hb; obtain ⟨⟨a0, a1, a2, a3, a4⟩, c0, c1, c2, c3, c4⟩ := HS0.out.1.two.cells; clear hR hn hm hS0 hF0 hfr hb HS)
    | (go_at_call 9; refine (shown_any _).mono ?_; rintro e w1 ⟨rfl, hs⟩; have HS : Hid _ := hs; clear hs))
  go_region
  all_goals
    go_wp2
    go_ret
    exact ⟨by simp, by first | exact HFF.out.2.1.below | exact HFF.out.2.1.below.drew | exact HFF.out.2.1.below.drew.drew⟩
set_option maxHeartbeats 8000000 in
set_option maxRecDepth 20000 in
theorem high_low (n m : Int) (one two : St) (w : World) (ho : one.Ok) (ht : two.Ok) (nx : 16 ≤ n) (mx : m < 0) (hne : ¬ n = m) : Calls Try.prog 6 #[.int .i64 n, .int .i64 m, one.val, two.val] w fun e w' => e = .returned (.bool true) ∧ Below w.heap.size w w' := by
  have nh0 : (0 : Int) ≤ n := by omega
  have nh1 : decide (n < 16) = false := decide_eq_false (by omega)
  have nh2 : ¬ n < 16 := by omega
  have np : placeE n 16 = 31 := place_out (by omega)
  have nv : ∀ g, readV n 16 g = .slice none 0 0 := fun g => by unfold readV; rw [if_pos (by omega)]
  have mp : placeE m 16 = 31 := place_out (by omega)
  have mv : ∀ g, readV m 16 g = .slice none 0 0 := fun g => by unfold readV; rw [if_pos (by omega)]
  have HN : Hid (placeE n 16 = _ ∧ ∀ g, readV n 16 g = _) := ⟨np, nv⟩
  have HM : Hid (placeE m 16 = _ ∧ ∀ g, readV m 16 g = _) := ⟨mp, mv⟩
  clear mp mv
  clear np nv
  go_enter Try.func6, Try.ntmps6
  go_wp2_with (first
    | (go_at_call 22; have hx := HG2; clear hx; refine (filled_last one _).mono ?_; rintro e w9 ⟨g5, rfl, hB, hg, hb⟩; have HF1 : Hid (Sta w w1.heap.size w.heap.size (w.heap.size + 1) b one two E2 w9 ∧ Got n 16 g3 (E2.S n.toNat) w9 ∧ Got m 16 g4 (E2.S m.toNat) w9 ∧ D.after E1 n (fOf one) ∧ E1.after E2 m (fOf two) ∧ E1.n = 16 ∧ D.n = 16) := ⟨HG2.out.1.next hb, HG2.out.2.1.next hb, HG2.out.2.2.1.next hb, HG2.out.2.2.2⟩; have HFF : Hid (BRow w9 g5 1024 (fOf one) ∧ Sta w w1.heap.size w.heap.size (w.heap.size + 1) b one two E2 w9 ∧ Got n 16 g3 (E2.S n.toNat) w9 ∧ Got m 16 g4 (E2.S m.toNat) w9 ∧ D.after E1 n (fOf one) ∧ E1.after E2 m (fOf two) ∧ E1.n = 16 ∧ D.n = 16) := ⟨hB, HF1.out⟩; clear a0 a1 a2 a3 a4 c0 c1 c2 c3 c4; obtain ⟨⟨a0, a1, a2, a3, a4⟩, c0, c1, c2, c3, c4⟩ := HF1.out.1.two.cells; clear hB hg hb HG2)
    | (go_at_call 23; have hx := HG1; clear hx; refine (read_both b E2 m _ HG1.out.1.rep).mono ?_; rintro e w8 ⟨g4, he, hG, hb⟩; rw [HG1.out.1.n, HM.out.1, HM.out.2] at he; obtain rfl := he; have HG2 : Hid (Sta w w1.heap.size w.heap.size (w.heap.size + 1) b one two E2 w8 ∧ Got n 16 g3 (E2.S n.toNat) w8 ∧ Got m 16 g4 (E2.S m.toNat) w8 ∧ D.after E1 n (fOf one) ∧ E1.after E2 m (fOf two) ∧ E1.n = 16 ∧ D.n = 16) := ⟨HG1.out.1.next hb, HG1.out.2.1.next hb, fun h0 h1 => ⟨(hG h0 (by rw [HG1.out.1.n]; exact h1)).2.1, (hG h0 (by rw [HG1.out.1.n]; exact h1)).2.2.2⟩, HG1.out.2.2⟩; clear a0 a1 a2 a3 a4 c0 c1 c2 c3 c4; obtain ⟨⟨a0, a1, a2, a3, a4⟩, c0, c1, c2, c3, c4⟩ := HG2.out.1.two.cells; clear hG hb HG1)
    | (go_at_call 23; have hx := HE2; clear hx; refine (read_both b E2 n _ HE2.out.1.rep).mono ?_; rintro e w7 ⟨g3, he, hG, hb⟩; rw [HE2.out.1.n, HN.out.1, HN.out.2] at he; obtain rfl := he; have HG1 : Hid (Sta w w1.heap.size w.heap.size (w.heap.size + 1) b one two E2 w7 ∧ Got n 16 g3 (E2.S n.toNat) w7 ∧ D.after E1 n (fOf one) ∧ E1.after E2 m (fOf two) ∧ E1.n = 16 ∧ D.n = 16) := ⟨HE2.out.1.next hb, fun h0 h1 => ⟨(hG h0 (by rw [HE2.out.1.n]; exact h1)).2.1, (hG h0 (by rw [HE2.out.1.n]; exact h1)).2.2.2⟩, HE2.out.2⟩; clear hG hb HE2)
    | (go_at_call 21; have hx := HA2; clear hx; refine (write_both b E1 m _ _ (fOf two) _ HA2.out.2.1.rep (by have := HA2.out.2.2.1; omega) (HA2.out.1.rd (by decide) (fOf_byte ht))).mono ?_; rintro e w6 ⟨E2, he, hR, haf, htt, hmu, hfx⟩; rw [HA2.out.2.1.n, HM.out.1] at he; obtain rfl := he; have HE2 : Hid (Sta w w1.heap.size w.heap.size (w.heap.size + 1) b one two E2 w6 ∧ D.after E1 n (fOf one) ∧ E1.after E2 m (fOf two) ∧ E1.n = 16 ∧ D.n = 16) := ⟨HA2.out.2.1.wrote hR haf.1 htt hmu hfx, HA2.out.2.2.2.1, haf, HA2.out.2.1.n, HA2.out.2.2.2.2⟩; clear a0 a1 a2 a3 a4 c0 c1 c2 c3 c4; obtain ⟨⟨a0, a1, a2, a3, a4⟩, c0, c1, c2, c3, c4⟩ := HE2.out.1.two.cells; clear hR haf htt hmu hfx HA2)
    | (go_at_call 22; have hx := HE1; clear hx; refine (filled_last two _).mono ?_; rintro e w5 ⟨g2, rfl, hB, hg, hb⟩; have HA2 : Hid (BRow w5 g2 1024 (fOf two) ∧ Sta w w1.heap.size w.heap.size (w.heap.size + 1) b one two E1 w5 ∧ E1.m ≤ 1 ∧ D.after E1 n (fOf one) ∧ D.n = 16) := ⟨hB, HE1.out.1.next hb, HE1.out.2⟩; clear hB hg hb HE1)
    | (go_at_call 21; have hx := HA; clear hx; refine (write_both b D n _ _ (fOf one) _ HA.out.2.1.rep (by rw [HA.out.2.2]; omega) (HA.out.1.rd (by decide) (fOf_byte ho))).mono ?_; rintro e w4 ⟨E1, he, hR, haf, htt, hmu, hfx⟩; rw [HA.out.2.1.n, HN.out.1] at he; obtain rfl := he; have HE1 : Hid (Sta w w1.heap.size w.heap.size (w.heap.size + 1) b one two E1 w4 ∧ E1.m ≤ 1 ∧ D.after E1 n (fOf one) ∧ D.n = 16) := ⟨HA.out.2.1.wrote hR haf.1 htt hmu hfx, by have := haf.2.1; have := HA.out.2.2; omega, haf, HA.out.2.1.n⟩; clear a0 a1 a2 a3 a4 c0 c1 c2 c3 c4; obtain ⟨⟨a0, a1, a2, a3, a4⟩, c0, c1, c2, c3, c4⟩ := HE1.out.1.two.cells; clear hR haf htt hmu hfx HA)
    | (go_at_call 22; have hx := HS0; clear hx; refine (filled_last one _).mono ?_; rintro e w3 ⟨g1, rfl, hB, hg, hb⟩; have HA : Hid (BRow w3 g1 1024 (fOf one) ∧ Sta w w1.heap.size w.heap.size (w.heap.size + 1) b one two D w3 ∧ D.m = 0) := ⟨hB, HS0.out.1.next hb, HS0.out.2⟩; clear hB hg hb HS0)
    | (go_at_call 10; refine (new_some 16 _ (by omega) (by omega)).mono ?_; rintro e w2 ⟨b, D, rfl, hR, hn, hm, hS0, hF0, hfr, hb⟩; have HS0 : Hid (Sta w w1.heap.size w.heap.size (w.heap.size + 1) b one two D _ ∧ D.m = 0) := ⟨Sta.begin HS.out hR hn hfr hb, hm⟩; obtain ⟨k1, k2, k3, k4⟩ := begin_cells HS.out hb; obtain ⟨⟨a0, a1, a2, a3, a4⟩, c0, c1, c2, c3, c4⟩ := HS0.out.1.two.cells; clear hR hn hm hS0 hF0 hfr hb HS)
    | (go_at_call 9; refine (shown_any _).mono ?_; rintro e w1 ⟨rfl, hs⟩; have HS : Hid _ := hs; clear hs))
  go_region
  all_goals
    go_wp2
    go_ret
    exact ⟨by simp, by first | exact HFF.out.2.1.below | exact HFF.out.2.1.below.drew | exact HFF.out.2.1.below.drew.drew⟩
set_option maxHeartbeats 8000000 in
set_option maxRecDepth 20000 in
theorem high_high (n m : Int) (one two : St) (w : World) (ho : one.Ok) (ht : two.Ok) (nx : 16 ≤ n) (mx : 16 ≤ m) (hne : ¬ n = m) : Calls Try.prog 6 #[.int .i64 n, .int .i64 m, one.val, two.val] w fun e w' => e = .returned (.bool true) ∧ Below w.heap.size w w' := by
  have nh0 : (0 : Int) ≤ n := by omega
  have nh1 : decide (n < 16) = false := decide_eq_false (by omega)
  have nh2 : ¬ n < 16 := by omega
  have mh0 : (0 : Int) ≤ m := by omega
  have mh1 : decide (m < 16) = false := decide_eq_false (by omega)
  have mh2 : ¬ m < 16 := by omega
  have np : placeE n 16 = 31 := place_out (by omega)
  have nv : ∀ g, readV n 16 g = .slice none 0 0 := fun g => by unfold readV; rw [if_pos (by omega)]
  have mp : placeE m 16 = 31 := place_out (by omega)
  have mv : ∀ g, readV m 16 g = .slice none 0 0 := fun g => by unfold readV; rw [if_pos (by omega)]
  have HN : Hid (placeE n 16 = _ ∧ ∀ g, readV n 16 g = _) := ⟨np, nv⟩
  have HM : Hid (placeE m 16 = _ ∧ ∀ g, readV m 16 g = _) := ⟨mp, mv⟩
  clear mp mv
  clear np nv
  go_enter Try.func6, Try.ntmps6
  go_wp2_with (first
    | (go_at_call 22; have hx := HG2; clear hx; refine (filled_last one _).mono ?_; rintro e w9 ⟨g5, rfl, hB, hg, hb⟩; have HF1 : Hid (Sta w w1.heap.size w.heap.size (w.heap.size + 1) b one two E2 w9 ∧ Got n 16 g3 (E2.S n.toNat) w9 ∧ Got m 16 g4 (E2.S m.toNat) w9 ∧ D.after E1 n (fOf one) ∧ E1.after E2 m (fOf two) ∧ E1.n = 16 ∧ D.n = 16) := ⟨HG2.out.1.next hb, HG2.out.2.1.next hb, HG2.out.2.2.1.next hb, HG2.out.2.2.2⟩; have HFF : Hid (BRow w9 g5 1024 (fOf one) ∧ Sta w w1.heap.size w.heap.size (w.heap.size + 1) b one two E2 w9 ∧ Got n 16 g3 (E2.S n.toNat) w9 ∧ Got m 16 g4 (E2.S m.toNat) w9 ∧ D.after E1 n (fOf one) ∧ E1.after E2 m (fOf two) ∧ E1.n = 16 ∧ D.n = 16) := ⟨hB, HF1.out⟩; clear a0 a1 a2 a3 a4 c0 c1 c2 c3 c4; obtain ⟨⟨a0, a1, a2, a3, a4⟩, c0, c1, c2, c3, c4⟩ := HF1.out.1.two.cells; clear hB hg hb HG2)
    | (go_at_call 23; have hx := HG1; clear hx; refine (read_both b E2 m _ HG1.out.1.rep).mono ?_; rintro e w8 ⟨g4, he, hG, hb⟩; rw [HG1.out.1.n, HM.out.1, HM.out.2] at he; obtain rfl := he; have HG2 : Hid (Sta w w1.heap.size w.heap.size (w.heap.size + 1) b one two E2 w8 ∧ Got n 16 g3 (E2.S n.toNat) w8 ∧ Got m 16 g4 (E2.S m.toNat) w8 ∧ D.after E1 n (fOf one) ∧ E1.after E2 m (fOf two) ∧ E1.n = 16 ∧ D.n = 16) := ⟨HG1.out.1.next hb, HG1.out.2.1.next hb, fun h0 h1 => ⟨(hG h0 (by rw [HG1.out.1.n]; exact h1)).2.1, (hG h0 (by rw [HG1.out.1.n]; exact h1)).2.2.2⟩, HG1.out.2.2⟩; clear a0 a1 a2 a3 a4 c0 c1 c2 c3 c4; obtain ⟨⟨a0, a1, a2, a3, a4⟩, c0, c1, c2, c3, c4⟩ := HG2.out.1.two.cells; clear hG hb HG1)
    | (go_at_call 23; have hx := HE2; clear hx; refine (read_both b E2 n _ HE2.out.1.rep).mono ?_; rintro e w7 ⟨g3, he, hG, hb⟩; rw [HE2.out.1.n, HN.out.1, HN.out.2] at he; obtain rfl := he; have HG1 : Hid (Sta w w1.heap.size w.heap.size (w.heap.size + 1) b one two E2 w7 ∧ Got n 16 g3 (E2.S n.toNat) w7 ∧ D.after E1 n (fOf one) ∧ E1.after E2 m (fOf two) ∧ E1.n = 16 ∧ D.n = 16) := ⟨HE2.out.1.next hb, fun h0 h1 => ⟨(hG h0 (by rw [HE2.out.1.n]; exact h1)).2.1, (hG h0 (by rw [HE2.out.1.n]; exact h1)).2.2.2⟩, HE2.out.2⟩; clear hG hb HE2)
    | (go_at_call 21; have hx := HA2; clear hx; refine (write_both b E1 m _ _ (fOf two) _ HA2.out.2.1.rep (by have := HA2.out.2.2.1; omega) (HA2.out.1.rd (by decide) (fOf_byte ht))).mono ?_; rintro e w6 ⟨E2, he, hR, haf, htt, hmu, hfx⟩; rw [HA2.out.2.1.n, HM.out.1] at he; obtain rfl := he; have HE2 : Hid (Sta w w1.heap.size w.heap.size (w.heap.size + 1) b one two E2 w6 ∧ D.after E1 n (fOf one) ∧ E1.after E2 m (fOf two) ∧ E1.n = 16 ∧ D.n = 16) := ⟨HA2.out.2.1.wrote hR haf.1 htt hmu hfx, HA2.out.2.2.2.1, haf, HA2.out.2.1.n, HA2.out.2.2.2.2⟩; clear a0 a1 a2 a3 a4 c0 c1 c2 c3 c4; obtain ⟨⟨a0, a1, a2, a3, a4⟩, c0, c1, c2, c3, c4⟩ := HE2.out.1.two.cells; clear hR haf htt hmu hfx HA2)
    | (go_at_call 22; have hx := HE1; clear hx; refine (filled_last two _).mono ?_; rintro e w5 ⟨g2, rfl, hB, hg, hb⟩; have HA2 : Hid (BRow w5 g2 1024 (fOf two) ∧ Sta w w1.heap.size w.heap.size (w.heap.size + 1) b one two E1 w5 ∧ E1.m ≤ 1 ∧ D.after E1 n (fOf one) ∧ D.n = 16) := ⟨hB, HE1.out.1.next hb, HE1.out.2⟩; clear hB hg hb HE1)
    | (go_at_call 21; have hx := HA; clear hx; refine (write_both b D n _ _ (fOf one) _ HA.out.2.1.rep (by rw [HA.out.2.2]; omega) (HA.out.1.rd (by decide) (fOf_byte ho))).mono ?_; rintro e w4 ⟨E1, he, hR, haf, htt, hmu, hfx⟩; rw [HA.out.2.1.n, HN.out.1] at he; obtain rfl := he; have HE1 : Hid (Sta w w1.heap.size w.heap.size (w.heap.size + 1) b one two E1 w4 ∧ E1.m ≤ 1 ∧ D.after E1 n (fOf one) ∧ D.n = 16) := ⟨HA.out.2.1.wrote hR haf.1 htt hmu hfx, by have := haf.2.1; have := HA.out.2.2; omega, haf, HA.out.2.1.n⟩; clear a0 a1 a2 a3 a4 c0 c1 c2 c3 c4; obtain ⟨⟨a0, a1, a2, a3, a4⟩, c0, c1, c2, c3, c4⟩ := HE1.out.1.two.cells; clear hR haf htt hmu hfx HA)
    | (go_at_call 22; have hx := HS0; clear hx; refine (filled_last one _).mono ?_; rintro e w3 ⟨g1, rfl, hB, hg, hb⟩; have HA : Hid (BRow w3 g1 1024 (fOf one) ∧ Sta w w1.heap.size w.heap.size (w.heap.size + 1) b one two D w3 ∧ D.m = 0) := ⟨hB, HS0.out.1.next hb, HS0.out.2⟩; clear hB hg hb HS0)
    | (go_at_call 10; refine (new_some 16 _ (by omega) (by omega)).mono ?_; rintro e w2 ⟨b, D, rfl, hR, hn, hm, hS0, hF0, hfr, hb⟩; have HS0 : Hid (Sta w w1.heap.size w.heap.size (w.heap.size + 1) b one two D _ ∧ D.m = 0) := ⟨Sta.begin HS.out hR hn hfr hb, hm⟩; obtain ⟨k1, k2, k3, k4⟩ := begin_cells HS.out hb; obtain ⟨⟨a0, a1, a2, a3, a4⟩, c0, c1, c2, c3, c4⟩ := HS0.out.1.two.cells; clear hR hn hm hS0 hF0 hfr hb HS)
    | (go_at_call 9; refine (shown_any _).mono ?_; rintro e w1 ⟨rfl, hs⟩; have HS : Hid _ := hs; clear hs))
  go_region
  all_goals
    go_wp2
    go_ret
    exact ⟨by simp, by first | exact HFF.out.2.1.below | exact HFF.out.2.1.below.drew | exact HFF.out.2.1.below.drew.drew⟩
set_option maxHeartbeats 8000000 in
set_option maxRecDepth 20000 in
theorem low_eq (n m : Int) (one two : St) (w : World) (ho : one.Ok) (ht : two.Ok) (nx : n < 0) (heq : n = m) : Calls Try.prog 6 #[.int .i64 n, .int .i64 m, one.val, two.val] w fun e w' => e = .returned (.bool true) ∧ Below w.heap.size w w' := by
  subst heq
  have np : placeE n 16 = 31 := place_out (by omega)
  have nv : ∀ g, readV n 16 g = .slice none 0 0 := fun g => by unfold readV; rw [if_pos (by omega)]
  have HN : Hid (placeE n 16 = _ ∧ ∀ g, readV n 16 g = _) := ⟨np, nv⟩
  clear np nv
  go_enter Try.func6, Try.ntmps6
  go_wp2_with (first
    | (go_at_call 22; have hx := HF1; clear hx; refine (filled_last two _).mono ?_; rintro e wF ⟨gF, rfl, hB, hg, hb⟩; have HFF : Hid (BRow wF gF 1024 (fOf two) ∧ Sta w w1.heap.size w.heap.size (w.heap.size + 1) b one two E2 wF ∧ Got n 16 g3 (E2.S n.toNat) wF ∧ Got n 16 g4 (E2.S n.toNat) wF ∧ D.after E1 n (fOf one) ∧ E1.after E2 n (fOf two) ∧ E1.n = 16 ∧ D.n = 16) := ⟨hB, HF1.out.1.next hb, HF1.out.2.1.next hb, HF1.out.2.2.1.next hb, HF1.out.2.2.2⟩; clear a0 a1 a2 a3 a4 c0 c1 c2 c3 c4; obtain ⟨⟨a0, a1, a2, a3, a4⟩, c0, c1, c2, c3, c4⟩ := HFF.out.2.1.two.cells; clear hB hg hb HF1)
    | (go_at_call 22; have hx := HG2; clear hx; refine (filled_last one _).mono ?_; rintro e w9 ⟨g5, rfl, hB, hg, hb⟩; have HF1 : Hid (Sta w w1.heap.size w.heap.size (w.heap.size + 1) b one two E2 w9 ∧ Got n 16 g3 (E2.S n.toNat) w9 ∧ Got n 16 g4 (E2.S n.toNat) w9 ∧ D.after E1 n (fOf one) ∧ E1.after E2 n (fOf two) ∧ E1.n = 16 ∧ D.n = 16) := ⟨HG2.out.1.next hb, HG2.out.2.1.next hb, HG2.out.2.2.1.next hb, HG2.out.2.2.2⟩; clear a0 a1 a2 a3 a4 c0 c1 c2 c3 c4; obtain ⟨⟨a0, a1, a2, a3, a4⟩, c0, c1, c2, c3, c4⟩ := HF1.out.1.two.cells; clear hB hg hb HG2)
    | (go_at_call 23; have hx := HG1; clear hx; refine (read_both b E2 n _ HG1.out.1.rep).mono ?_; rintro e w8 ⟨g4, he, hG, hb⟩; rw [HG1.out.1.n, HN.out.1, HN.out.2] at he; obtain rfl := he; have HG2 : Hid (Sta w w1.heap.size w.heap.size (w.heap.size + 1) b one two E2 w8 ∧ Got n 16 g3 (E2.S n.toNat) w8 ∧ Got n 16 g4 (E2.S n.toNat) w8 ∧ D.after E1 n (fOf one) ∧ E1.after E2 n (fOf two) ∧ E1.n = 16 ∧ D.n = 16) := ⟨HG1.out.1.next hb, HG1.out.2.1.next hb, fun h0 h1 => ⟨(hG h0 (by rw [HG1.out.1.n]; exact h1)).2.1, (hG h0 (by rw [HG1.out.1.n]; exact h1)).2.2.2⟩, HG1.out.2.2⟩; clear a0 a1 a2 a3 a4 c0 c1 c2 c3 c4; obtain ⟨⟨a0, a1, a2, a3, a4⟩, c0, c1, c2, c3, c4⟩ := HG2.out.1.two.cells; clear hG hb HG1)
    | (go_at_call 23; have hx := HE2; clear hx; refine (read_both b E2 n _ HE2.out.1.rep).mono ?_; rintro e w7 ⟨g3, he, hG, hb⟩; rw [HE2.out.1.n, HN.out.1, HN.out.2] at he; obtain rfl := he; have HG1 : Hid (Sta w w1.heap.size w.heap.size (w.heap.size + 1) b one two E2 w7 ∧ Got n 16 g3 (E2.S n.toNat) w7 ∧ D.after E1 n (fOf one) ∧ E1.after E2 n (fOf two) ∧ E1.n = 16 ∧ D.n = 16) := ⟨HE2.out.1.next hb, fun h0 h1 => ⟨(hG h0 (by rw [HE2.out.1.n]; exact h1)).2.1, (hG h0 (by rw [HE2.out.1.n]; exact h1)).2.2.2⟩, HE2.out.2⟩; clear hG hb HE2)
    | (go_at_call 21; have hx := HA2; clear hx; refine (write_both b E1 n _ _ (fOf two) _ HA2.out.2.1.rep (by have := HA2.out.2.2.1; omega) (HA2.out.1.rd (by decide) (fOf_byte ht))).mono ?_; rintro e w6 ⟨E2, he, hR, haf, htt, hmu, hfx⟩; rw [HA2.out.2.1.n, HN.out.1] at he; obtain rfl := he; have HE2 : Hid (Sta w w1.heap.size w.heap.size (w.heap.size + 1) b one two E2 w6 ∧ D.after E1 n (fOf one) ∧ E1.after E2 n (fOf two) ∧ E1.n = 16 ∧ D.n = 16) := ⟨HA2.out.2.1.wrote hR haf.1 htt hmu hfx, HA2.out.2.2.2.1, haf, HA2.out.2.1.n, HA2.out.2.2.2.2⟩; clear a0 a1 a2 a3 a4 c0 c1 c2 c3 c4; obtain ⟨⟨a0, a1, a2, a3, a4⟩, c0, c1, c2, c3, c4⟩ := HE2.out.1.two.cells; clear hR haf htt hmu hfx HA2)
    | (go_at_call 22; have hx := HE1; clear hx; refine (filled_last two _).mono ?_; rintro e w5 ⟨g2, rfl, hB, hg, hb⟩; have HA2 : Hid (BRow w5 g2 1024 (fOf two) ∧ Sta w w1.heap.size w.heap.size (w.heap.size + 1) b one two E1 w5 ∧ E1.m ≤ 1 ∧ D.after E1 n (fOf one) ∧ D.n = 16) := ⟨hB, HE1.out.1.next hb, HE1.out.2⟩; clear hB hg hb HE1)
    | (go_at_call 21; have hx := HA; clear hx; refine (write_both b D n _ _ (fOf one) _ HA.out.2.1.rep (by rw [HA.out.2.2]; omega) (HA.out.1.rd (by decide) (fOf_byte ho))).mono ?_; rintro e w4 ⟨E1, he, hR, haf, htt, hmu, hfx⟩; rw [HA.out.2.1.n, HN.out.1] at he; obtain rfl := he; have HE1 : Hid (Sta w w1.heap.size w.heap.size (w.heap.size + 1) b one two E1 w4 ∧ E1.m ≤ 1 ∧ D.after E1 n (fOf one) ∧ D.n = 16) := ⟨HA.out.2.1.wrote hR haf.1 htt hmu hfx, by have := haf.2.1; have := HA.out.2.2; omega, haf, HA.out.2.1.n⟩; clear a0 a1 a2 a3 a4 c0 c1 c2 c3 c4; obtain ⟨⟨a0, a1, a2, a3, a4⟩, c0, c1, c2, c3, c4⟩ := HE1.out.1.two.cells; clear hR haf htt hmu hfx HA)
    | (go_at_call 22; have hx := HS0; clear hx; refine (filled_last one _).mono ?_; rintro e w3 ⟨g1, rfl, hB, hg, hb⟩; have HA : Hid (BRow w3 g1 1024 (fOf one) ∧ Sta w w1.heap.size w.heap.size (w.heap.size + 1) b one two D w3 ∧ D.m = 0) := ⟨hB, HS0.out.1.next hb, HS0.out.2⟩; clear hB hg hb HS0)
    | (go_at_call 10; refine (new_some 16 _ (by omega) (by omega)).mono ?_; rintro e w2 ⟨b, D, rfl, hR, hn, hm, hS0, hF0, hfr, hb⟩; have HS0 : Hid (Sta w w1.heap.size w.heap.size (w.heap.size + 1) b one two D _ ∧ D.m = 0) := ⟨Sta.begin HS.out hR hn hfr hb, hm⟩; obtain ⟨k1, k2, k3, k4⟩ := begin_cells HS.out hb; obtain ⟨⟨a0, a1, a2, a3, a4⟩, c0, c1, c2, c3, c4⟩ := HS0.out.1.two.cells; clear hR hn hm hS0 hF0 hfr hb HS)
    | (go_at_call 9; refine (shown_any _).mono ?_; rintro e w1 ⟨rfl, hs⟩; have HS : Hid _ := hs; clear hs))
  go_region
  all_goals
    go_wp2
    go_ret
    exact ⟨by simp, by first | exact HFF.out.2.1.below | exact HFF.out.2.1.below.drew | exact HFF.out.2.1.below.drew.drew⟩
set_option maxHeartbeats 8000000 in
set_option maxRecDepth 20000 in
theorem high_eq (n m : Int) (one two : St) (w : World) (ho : one.Ok) (ht : two.Ok) (nx : 16 ≤ n) (heq : n = m) : Calls Try.prog 6 #[.int .i64 n, .int .i64 m, one.val, two.val] w fun e w' => e = .returned (.bool true) ∧ Below w.heap.size w w' := by
  subst heq
  have nh0 : (0 : Int) ≤ n := by omega
  have nh1 : decide (n < 16) = false := decide_eq_false (by omega)
  have nh2 : ¬ n < 16 := by omega
  have np : placeE n 16 = 31 := place_out (by omega)
  have nv : ∀ g, readV n 16 g = .slice none 0 0 := fun g => by unfold readV; rw [if_pos (by omega)]
  have HN : Hid (placeE n 16 = _ ∧ ∀ g, readV n 16 g = _) := ⟨np, nv⟩
  clear np nv
  go_enter Try.func6, Try.ntmps6
  go_wp2_with (first
    | (go_at_call 22; have hx := HF1; clear hx; refine (filled_last two _).mono ?_; rintro e wF ⟨gF, rfl, hB, hg, hb⟩; have HFF : Hid (BRow wF gF 1024 (fOf two) ∧ Sta w w1.heap.size w.heap.size (w.heap.size + 1) b one two E2 wF ∧ Got n 16 g3 (E2.S n.toNat) wF ∧ Got n 16 g4 (E2.S n.toNat) wF ∧ D.after E1 n (fOf one) ∧ E1.after E2 n (fOf two) ∧ E1.n = 16 ∧ D.n = 16) := ⟨hB, HF1.out.1.next hb, HF1.out.2.1.next hb, HF1.out.2.2.1.next hb, HF1.out.2.2.2⟩; clear a0 a1 a2 a3 a4 c0 c1 c2 c3 c4; obtain ⟨⟨a0, a1, a2, a3, a4⟩, c0, c1, c2, c3, c4⟩ := HFF.out.2.1.two.cells; clear hB hg hb HF1)
    | (go_at_call 22; have hx := HG2; clear hx; refine (filled_last one _).mono ?_; rintro e w9 ⟨g5, rfl, hB, hg, hb⟩; have HF1 : Hid (Sta w w1.heap.size w.heap.size (w.heap.size + 1) b one two E2 w9 ∧ Got n 16 g3 (E2.S n.toNat) w9 ∧ Got n 16 g4 (E2.S n.toNat) w9 ∧ D.after E1 n (fOf one) ∧ E1.after E2 n (fOf two) ∧ E1.n = 16 ∧ D.n = 16) := ⟨HG2.out.1.next hb, HG2.out.2.1.next hb, HG2.out.2.2.1.next hb, HG2.out.2.2.2⟩; clear a0 a1 a2 a3 a4 c0 c1 c2 c3 c4; obtain ⟨⟨a0, a1, a2, a3, a4⟩, c0, c1, c2, c3, c4⟩ := HF1.out.1.two.cells; clear hB hg hb HG2)
    | (go_at_call 23; have hx := HG1; clear hx; refine (read_both b E2 n _ HG1.out.1.rep).mono ?_; rintro e w8 ⟨g4, he, hG, hb⟩; rw [HG1.out.1.n, HN.out.1, HN.out.2] at he; obtain rfl := he; have HG2 : Hid (Sta w w1.heap.size w.heap.size (w.heap.size + 1) b one two E2 w8 ∧ Got n 16 g3 (E2.S n.toNat) w8 ∧ Got n 16 g4 (E2.S n.toNat) w8 ∧ D.after E1 n (fOf one) ∧ E1.after E2 n (fOf two) ∧ E1.n = 16 ∧ D.n = 16) := ⟨HG1.out.1.next hb, HG1.out.2.1.next hb, fun h0 h1 => ⟨(hG h0 (by rw [HG1.out.1.n]; exact h1)).2.1, (hG h0 (by rw [HG1.out.1.n]; exact h1)).2.2.2⟩, HG1.out.2.2⟩; clear a0 a1 a2 a3 a4 c0 c1 c2 c3 c4; obtain ⟨⟨a0, a1, a2, a3, a4⟩, c0, c1, c2, c3, c4⟩ := HG2.out.1.two.cells; clear hG hb HG1)
    | (go_at_call 23; have hx := HE2; clear hx; refine (read_both b E2 n _ HE2.out.1.rep).mono ?_; rintro e w7 ⟨g3, he, hG, hb⟩; rw [HE2.out.1.n, HN.out.1, HN.out.2] at he; obtain rfl := he; have HG1 : Hid (Sta w w1.heap.size w.heap.size (w.heap.size + 1) b one two E2 w7 ∧ Got n 16 g3 (E2.S n.toNat) w7 ∧ D.after E1 n (fOf one) ∧ E1.after E2 n (fOf two) ∧ E1.n = 16 ∧ D.n = 16) := ⟨HE2.out.1.next hb, fun h0 h1 => ⟨(hG h0 (by rw [HE2.out.1.n]; exact h1)).2.1, (hG h0 (by rw [HE2.out.1.n]; exact h1)).2.2.2⟩, HE2.out.2⟩; clear hG hb HE2)
    | (go_at_call 21; have hx := HA2; clear hx; refine (write_both b E1 n _ _ (fOf two) _ HA2.out.2.1.rep (by have := HA2.out.2.2.1; omega) (HA2.out.1.rd (by decide) (fOf_byte ht))).mono ?_; rintro e w6 ⟨E2, he, hR, haf, htt, hmu, hfx⟩; rw [HA2.out.2.1.n, HN.out.1] at he; obtain rfl := he; have HE2 : Hid (Sta w w1.heap.size w.heap.size (w.heap.size + 1) b one two E2 w6 ∧ D.after E1 n (fOf one) ∧ E1.after E2 n (fOf two) ∧ E1.n = 16 ∧ D.n = 16) := ⟨HA2.out.2.1.wrote hR haf.1 htt hmu hfx, HA2.out.2.2.2.1, haf, HA2.out.2.1.n, HA2.out.2.2.2.2⟩; clear a0 a1 a2 a3 a4 c0 c1 c2 c3 c4; obtain ⟨⟨a0, a1, a2, a3, a4⟩, c0, c1, c2, c3, c4⟩ := HE2.out.1.two.cells; clear hR haf htt hmu hfx HA2)
    | (go_at_call 22; have hx := HE1; clear hx; refine (filled_last two _).mono ?_; rintro e w5 ⟨g2, rfl, hB, hg, hb⟩; have HA2 : Hid (BRow w5 g2 1024 (fOf two) ∧ Sta w w1.heap.size w.heap.size (w.heap.size + 1) b one two E1 w5 ∧ E1.m ≤ 1 ∧ D.after E1 n (fOf one) ∧ D.n = 16) := ⟨hB, HE1.out.1.next hb, HE1.out.2⟩; clear hB hg hb HE1)
    | (go_at_call 21; have hx := HA; clear hx; refine (write_both b D n _ _ (fOf one) _ HA.out.2.1.rep (by rw [HA.out.2.2]; omega) (HA.out.1.rd (by decide) (fOf_byte ho))).mono ?_; rintro e w4 ⟨E1, he, hR, haf, htt, hmu, hfx⟩; rw [HA.out.2.1.n, HN.out.1] at he; obtain rfl := he; have HE1 : Hid (Sta w w1.heap.size w.heap.size (w.heap.size + 1) b one two E1 w4 ∧ E1.m ≤ 1 ∧ D.after E1 n (fOf one) ∧ D.n = 16) := ⟨HA.out.2.1.wrote hR haf.1 htt hmu hfx, by have := haf.2.1; have := HA.out.2.2; omega, haf, HA.out.2.1.n⟩; clear a0 a1 a2 a3 a4 c0 c1 c2 c3 c4; obtain ⟨⟨a0, a1, a2, a3, a4⟩, c0, c1, c2, c3, c4⟩ := HE1.out.1.two.cells; clear hR haf htt hmu hfx HA)
    | (go_at_call 22; have hx := HS0; clear hx; refine (filled_last one _).mono ?_; rintro e w3 ⟨g1, rfl, hB, hg, hb⟩; have HA : Hid (BRow w3 g1 1024 (fOf one) ∧ Sta w w1.heap.size w.heap.size (w.heap.size + 1) b one two D w3 ∧ D.m = 0) := ⟨hB, HS0.out.1.next hb, HS0.out.2⟩; clear hB hg hb HS0)
    | (go_at_call 10; refine (new_some 16 _ (by omega) (by omega)).mono ?_; rintro e w2 ⟨b, D, rfl, hR, hn, hm, hS0, hF0, hfr, hb⟩; have HS0 : Hid (Sta w w1.heap.size w.heap.size (w.heap.size + 1) b one two D _ ∧ D.m = 0) := ⟨Sta.begin HS.out hR hn hfr hb, hm⟩; obtain ⟨k1, k2, k3, k4⟩ := begin_cells HS.out hb; obtain ⟨⟨a0, a1, a2, a3, a4⟩, c0, c1, c2, c3, c4⟩ := HS0.out.1.two.cells; clear hR hn hm hS0 hF0 hfr hb HS)
    | (go_at_call 9; refine (shown_any _).mono ?_; rintro e w1 ⟨rfl, hs⟩; have HS : Hid _ := hs; clear hs))
  go_region
  all_goals
    go_wp2
    go_ret
    exact ⟨by simp, by first | exact HFF.out.2.1.below | exact HFF.out.2.1.below.drew | exact HFF.out.2.1.below.drew.drew⟩
end diskLast
end Go.Proofs.Ythkpohlgekfnjaa
