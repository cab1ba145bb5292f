/-
  The law on wear: for every number it returns true, and nothing that was there has turned; no condition.
-/
import Derived.Test.YthkpohlgekfnjaaMeth
namespace Go.Proofs.Ythkpohlgekfnjaa
open Go.ChangeShapes Go.WideShapes Go.ChangeAt Go.RowKit
attribute [local go_sem ↓] loadSec_seal storeSec_seal eqlSec_seal zeroSec
attribute [local go_sem] loadSec_run storeSec_run rowAt_at rowAt_old rowAt_drew rowAt_drewN roomSec_new roomAt_old roomAt_drew roomAt_drewN putSec_new putRow_past rowSec_put size_put putRow_drew putRow_drewN alloc_drewN setCell_drewN sec_size
namespace diskWears
structure Inv (w : World) (b g k : Nat) (X : World) : Prop where
  ex : ∃ D f, Rep X b D ∧ D.n = 8 ∧ D.m = min k 4096 ∧ BRow X g 1024 f ∧ (∀ i, i < 1024 → 0 ≤ f i ∧ f i ≤ 255) ∧ ¬ (D.mut b g ∨ D.fix g) ∧ D.fresh b w.heap.size
  below : Below w.heap.size w X
  g0 : w.heap.size ≤ g
theorem upd_byte {f : Nat → Int} {v : Int} {k n : Nat} (hf : ∀ i, i < n → 0 ≤ f i ∧ f i ≤ 255) (h0 : 0 ≤ v) (h1 : v ≤ 255) : ∀ i, i < n → 0 ≤ upd f k v i ∧ upd f k v i ≤ 255 := fun i hi => by
  unfold upd; split
  · exact ⟨h0, h1⟩
  · exact hf i hi
theorem first_worn {q n m : Nat} (hq : q < n) (hm : 4096 ≤ m) : firstE (q : Int) n 1024 m = 33 := by
  have e1 : placeE (q : Int) n = 0 := by unfold placeE; rw [if_neg (by omega)]
  have e2 : wearE m = 33 := by unfold wearE; rw [if_pos (by omega)]
  have e3 : dataE 1024 = 0 := by unfold dataE; rw [if_pos (by omega)]
  unfold firstE; rw [if_pos e1, if_pos e3, e2]
/-- A store into the row of bytes leaves the disk as it is. -/
theorem keepSet {X : World} {b g : Nat} {D : Dk} (hR : Rep X b D) (hap : ¬ (D.mut b g ∨ D.fix g)) (v : Value) : Rep (X.setCell ⟨g, 0, none⟩ v) b D :=
  hR.keep (by simp) fun x hx => Below.heap_setCell _ _ _ _ (fun e => hap (by have e : x = g := e; subst e; exact hx))
theorem Inv.wrote {w X X' : World} {b g k P h c q : Nat} {D : Dk} {f : Nat → Int} (H : Inv w b g k X) (hlt : k < 4096) (hn : D.n = 8) (hm : D.m = min k 4096) (hf : ∀ i, i < 1024 → 0 ≤ f i ∧ f i ≤ 255) (hB : BRow (X.setCell ⟨g, 0, none⟩ (.int .u8 (k % 256))) g 1024 f) (hap : ¬ (D.mut b g ∨ D.fix g)) (hfr : D.fresh b w.heap.size)
    (hR' : Rep X' b (D.wrote q P f h c)) (ht : Tou (D.mut b) (X.setCell ⟨g, 0, none⟩ (.int .u8 (k % 256))) X') (hmu : ∀ x, (D.wrote q P f h c).mut b x → D.mut b x ∨ (X.setCell ⟨g, 0, none⟩ (.int .u8 (k % 256))).heap.size ≤ x) (hfx : ∀ x, (D.wrote q P f h c).fix x → D.fix x ∨ (X.setCell ⟨g, 0, none⟩ (.int .u8 (k % 256))).heap.size ≤ x) : Inv w b g (k + 1) X' := by
  have gl := hB.lt
  have e : (X.setCell ⟨g, 0, none⟩ (.int .u8 (k % 256))).heap.size = X.heap.size := by simp
  have hb1 : Below w.heap.size w (X.setCell ⟨g, 0, none⟩ (.int .u8 (k % 256))) := H.below.setCell H.g0 _
  refine ⟨⟨_, f, hR', hn, by show D.m + 1 = _; omega, hB.same (ht.block g gl (fun hm => hap (.inl hm))), hf, fun hx => ?_, fun x hx => ?_⟩, hb1.trans (ht.below hb1.size (fun x hx => hfr x (.inl hx))), H.g0⟩
  · rcases hx with hx | hx
    · rcases hmu g hx with h1 | h1
      · exact hap (.inl h1)
      · omega
    · rcases hfx g hx with h1 | h1
      · exact hap (.inr h1)
      · omega
  · have hs := hb1.size
    rcases hx with hx | hx
    · rcases hmu x hx with h1 | h1
      · exact hfr x (.inl h1)
      · omega
    · rcases hfx x hx with h1 | h1
      · exact hfr x (.inr h1)
      · omega
theorem Inv.stays {w X X' : World} {b g k : Nat} {D : Dk} {f : Nat → Int} (H : Inv w b g k X) (hlt : 4096 ≤ k) (hR : Rep (X.setCell ⟨g, 0, none⟩ (.int .u8 (k % 256))) b D) (hn : D.n = 8) (hm : D.m = min k 4096) (hf : ∀ i, i < 1024 → 0 ≤ f i ∧ f i ≤ 255) (hB : BRow (X.setCell ⟨g, 0, none⟩ (.int .u8 (k % 256))) g 1024 f) (hap : ¬ (D.mut b g ∨ D.fix g)) (hfr : D.fresh b w.heap.size)
    (hb : Below (X.setCell ⟨g, 0, none⟩ (.int .u8 (k % 256))).heap.size (X.setCell ⟨g, 0, none⟩ (.int .u8 (k % 256))) X') : Inv w b g (k + 1) X' := by
  have hb1 : Below w.heap.size w (X.setCell ⟨g, 0, none⟩ (.int .u8 (k % 256))) := H.below.setCell H.g0 _
  exact ⟨⟨D, f, hR.below hb, hn, by omega, hB.same (hb.block g hB.lt), hf, hap, hfr⟩, hb1.trans (hb.mono hb1.size), H.g0⟩
set_option maxHeartbeats 4000000 in
set_option maxRecDepth 20000 in
theorem walk_in (N : Nat) (n : Int) (w : World) (hN : N ≤ 20) (l0 : 0 ≤ n) (l1 : n ≤ 20) (hn : n = N) : Calls Try.prog 7 #[.int .i64 n] w fun e w' => e = .returned (.bool true) ∧ Below w.heap.size w w' := by
  subst hn
  obtain ⟨i0, hi, hz0, hz1, hz2⟩ := info_parts info5
  have e1 : IntKind.i64.wrap (4086 + (N : Int)) = 4086 + N := by rw [IntWalk.i64_left, IntWalk.wrap64_in]; omega
  go_enter Try.func7, Try.ntmps7
  go_wp2_with (first
    | (go_at_call 9; refine (shown_any _).mono ?_; rintro e w0 ⟨rfl, b0⟩; have H0 : Hid _ := b0; clear b0)
    | (go_at_call 10; refine (new_some 8 _ (by omega) (by omega)).mono ?_; rintro e w1 ⟨b, D, rfl, hR, hn, hm, hS, hF, hfr, hb1⟩; have HR : Hid (Rep w1 b D ∧ D.n = 8 ∧ D.m = 0 ∧ D.fresh b w0.heap.size ∧ Below w0.heap.size w0 w1) := ⟨hR, hn, hm, hfr, hb1⟩; clear hR hn hm hS hF hfr hb1)
    | (at_make; refine wpList_make_full _ rfl _ _ 43 rfl w1.heap.size 5 i0 (.int .u8 0) 1 Try.underlying43 hi hz0 hz1 .i64 .i64 _ _ 1024 rfl rfl rfl rfl (by rw [hz2]; decide) (by decide) (Nat.le_refl _) ?_; intro w2 hown2 hgrow2; have HB : Hid (BRow w2 w1.heap.size 1024 (fun _ => 0) ∧ Below w1.heap.size w1 w2) := ⟨BRow.made hown2, (Below.refl _ w1).grown hgrow2 (Nat.le_refl _) (fun k hk => by cases hk)⟩; clear hown2 hgrow2))
  have hI : Inv w b w1.heap.size 0 w2 := by
    obtain ⟨hR, hn, hm, hfr, hb⟩ := HR.out
    have s0 := H0.out.size
    have s1 := hb.size
    refine ⟨⟨D, fun _ => 0, hR.below HB.out.2, hn, by simpa using hm, HB.out.1, fun i _ => ⟨Int.le_refl _, by show (0 : Int) ≤ 255; decide⟩, fun hx => ?_, fun x hx => Nat.le_trans s0 (hfr x hx)⟩, ?_, by omega⟩
    · have := hR.lt _ hx; omega
    · exact (H0.out.trans (hb.mono s0)).trans (HB.out.2.mono (by omega))
  have HI : Hid _ := hI
  clear hI HB HR H0
  go_loopw [7] (fun i X => ∃ k : Nat, k ≤ (4086 + N) ∧ i = .int .i64 k ∧ Inv w b w1.heap.size k X) (fun i _ => (4086 + N) - (intOf i).toNat)
  case atStart => exact ⟨0, by omega, rfl, HI.out⟩
  case round =>
    obtain ⟨k, hk, rfl, hX⟩ := hrel
    have HX : Hid _ := hX
    obtain ⟨⟨D, f, hR, hn, hm, hB, hf, hap, hfr⟩, hb, hg0⟩ := hX
    have HD : Hid (Rep _ b D ∧ D.n = 8 ∧ D.m = min k 4096 ∧ (∀ i, i < 1024 → 0 ≤ f i ∧ f i ≤ 255) ∧ ¬ (D.mut b w1.heap.size ∨ D.fix w1.heap.size) ∧ D.fresh b w.heap.size) := ⟨hR, hn, hm, hf, hap, hfr⟩
    by_cases hlt : k < (4086 + N)
    · obtain ⟨c0, c1⟩ := hB.at (k := 0) (by omega)
      have HB : Hid _ := hB.set (k := 0) (by omega) ((k : Int) % 256)
      have HY : Hid _ := upd_byte (k := 0) (v := (k : Int) % 256) hf (by omega) (by omega)
      have HK : Hid _ := keepSet hR hap (.int .u8 ((k : Int) % 256))
      have j0 : (k : Int) < 4086 + (N : Int) := by omega
      have hq : ((k : Int) % 8) = ((k % 8 : Nat) : Int) := by omega
      have HQ : Hid _ := hq
      by_cases h96 : k < 4096
      · have j1 : (k : Int) < 4096 := by omega
        clear hR hB hb HI hn hm hf hap hfr hg0 hq
        go_wp2_with (go_at_call 21; rw [HQ.out]; refine (write_good b D (k % 8) (some ⟨w1.heap.size, 0, none⟩) 1024 _ _ HK.out (by rw [HD.out.2.1]; omega) (by rw [HD.out.2.2.1]; omega) (HB.out.rd (by decide) HY.out)).mono ?_; rintro e w3 ⟨P, g, c, rfl, hR3, ht3, hm3, hf3⟩; have H3 : Hid (Inv w b w1.heap.size (k + 1) w3) := HX.out.wrote h96 HD.out.2.1 HD.out.2.2.1 HY.out HB.out HD.out.2.2.2.2.1 HD.out.2.2.2.2.2 hR3 ht3 hm3 hf3; clear hR3 ht3 hm3 hf3)
        go_roundw
        case rel => exact ⟨k + 1, by omega, by go_num, H3.out⟩
        case measure => simp [intOf]; omega
      · have j1 : 4096 ≤ (k : Int) := by omega
        have H96 : Hid (4096 ≤ k) := Nat.not_lt.1 h96
        have hE : firstE ((k % 8 : Nat) : Int) D.n 1024 D.m = 33 := first_worn (by omega) (by omega)
        have HE : Hid _ := hE
        clear hR hB hb HI hn hm hf hap hfr hg0 hq hE h96
        go_wp2_with (go_at_call 21; rw [HQ.out]; refine (write_bad b D _ (some ⟨w1.heap.size, 0, none⟩) 1024 1024 _ HK.out (by rw [HE.out]; decide)).mono ?_; rintro e w3 ⟨he, hb3⟩; rw [HE.out] at he; obtain rfl := he; have H3 : Hid (Inv w b w1.heap.size (k + 1) w3) := HX.out.stays H96.out HK.out HD.out.2.1 HD.out.2.2.1 HY.out HB.out HD.out.2.2.2.2.1 HD.out.2.2.2.2.2 hb3; clear hb3)
        go_roundw
        case rel => exact ⟨k + 1, by omega, by go_num, H3.out⟩
        case measure => simp [intOf]; omega
    · have hkl : k = (4086 + N) := by omega
      have j0 : (k : Int) = 4086 + (N : Int) := by omega
      have hm2 : ((D.m : Nat) : Int) = min 4096 (4086 + (N : Int)) := by rw [hm]; omega
      have HM : Hid _ := hm2
      clear hR hB hb HI hn hm hf hap hfr hg0 hm2 hkl hlt hk
      go_wp2_with (go_at_call 13; refine (writes_any b D _ HD.out.1).mono ?_; rintro e w4 ⟨g, rfl, _, _, _, hb4⟩; have H4 : Hid _ := hb4; have hm3 := HM.out; clear hb4)
      all_goals
        go_ret
        exact ⟨by simp; omega, HX.out.below.trans (H4.out.mono HX.out.below.size)⟩
set_option maxHeartbeats 4000000 in
set_option maxRecDepth 20000 in
theorem walk_low (n : Int) (w : World) (h1 : n < 0) : Calls Try.prog 7 #[.int .i64 n] w fun e w' => e = .returned (.bool true) ∧ Below w.heap.size w w' := by
  obtain ⟨i0, hi, hz0, hz1, hz2⟩ := info_parts info5
  go_enter Try.func7, Try.ntmps7
  go_wp2_with (first
    | (go_at_call 9; refine (shown_any _).mono ?_; rintro e w0 ⟨rfl, b0⟩; have H0 : Hid _ := b0; clear b0)
    | (go_at_call 10; refine (new_some 8 _ (by omega) (by omega)).mono ?_; rintro e w1 ⟨b, D, rfl, hR, hn, hm, hS, hF, hfr, hb1⟩; have HR : Hid (Rep w1 b D ∧ D.n = 8 ∧ D.m = 0 ∧ D.fresh b w0.heap.size ∧ Below w0.heap.size w0 w1) := ⟨hR, hn, hm, hfr, hb1⟩; clear hR hn hm hS hF hfr hb1)
    | (at_make; refine wpList_make_full _ rfl _ _ 43 rfl w1.heap.size 5 i0 (.int .u8 0) 1 Try.underlying43 hi hz0 hz1 .i64 .i64 _ _ 1024 rfl rfl rfl rfl (by rw [hz2]; decide) (by decide) (Nat.le_refl _) ?_; intro w2 hown2 hgrow2; have HB : Hid (BRow w2 w1.heap.size 1024 (fun _ => 0) ∧ Below w1.heap.size w1 w2) := ⟨BRow.made hown2, (Below.refl _ w1).grown hgrow2 (Nat.le_refl _) (fun k hk => by cases hk)⟩; clear hown2 hgrow2))
  have hI : Inv w b w1.heap.size 0 w2 := by
    obtain ⟨hR, hn, hm, hfr, hb⟩ := HR.out
    have s0 := H0.out.size
    have s1 := hb.size
    refine ⟨⟨D, fun _ => 0, hR.below HB.out.2, hn, by simpa using hm, HB.out.1, fun i _ => ⟨Int.le_refl _, by show (0 : Int) ≤ 255; decide⟩, fun hx => ?_, fun x hx => Nat.le_trans s0 (hfr x hx)⟩, ?_, by omega⟩
    · have := hR.lt _ hx; omega
    · exact (H0.out.trans (hb.mono s0)).trans (HB.out.2.mono (by omega))
  have HI : Hid _ := hI
  clear hI HB HR H0
  go_loopw [7] (fun i X => ∃ k : Nat, k ≤ 4086 ∧ i = .int .i64 k ∧ Inv w b w1.heap.size k X) (fun i _ => 4086 - (intOf i).toNat)
  case atStart => exact ⟨0, by omega, rfl, HI.out⟩
  case round =>
    obtain ⟨k, hk, rfl, hX⟩ := hrel
    have HX : Hid _ := hX
    obtain ⟨⟨D, f, hR, hn, hm, hB, hf, hap, hfr⟩, hb, hg0⟩ := hX
    have HD : Hid (Rep _ b D ∧ D.n = 8 ∧ D.m = min k 4096 ∧ (∀ i, i < 1024 → 0 ≤ f i ∧ f i ≤ 255) ∧ ¬ (D.mut b w1.heap.size ∨ D.fix w1.heap.size) ∧ D.fresh b w.heap.size) := ⟨hR, hn, hm, hf, hap, hfr⟩
    by_cases hlt : k < 4086
    · obtain ⟨c0, c1⟩ := hB.at (k := 0) (by omega)
      have HB : Hid _ := hB.set (k := 0) (by omega) ((k : Int) % 256)
      have HY : Hid _ := upd_byte (k := 0) (v := (k : Int) % 256) hf (by omega) (by omega)
      have HK : Hid _ := keepSet hR hap (.int .u8 ((k : Int) % 256))
      have j0 : (k : Int) < 4086 := by omega
      have hq : ((k : Int) % 8) = ((k % 8 : Nat) : Int) := by omega
      have HQ : Hid _ := hq
      by_cases h96 : k < 4096
      · have j1 : (k : Int) < 4096 := by omega
        clear hR hB hb HI hn hm hf hap hfr hg0 hq
        go_wp2_with (go_at_call 21; rw [HQ.out]; refine (write_good b D (k % 8) (some ⟨w1.heap.size, 0, none⟩) 1024 _ _ HK.out (by rw [HD.out.2.1]; omega) (by rw [HD.out.2.2.1]; omega) (HB.out.rd (by decide) HY.out)).mono ?_; rintro e w3 ⟨P, g, c, rfl, hR3, ht3, hm3, hf3⟩; have H3 : Hid (Inv w b w1.heap.size (k + 1) w3) := HX.out.wrote h96 HD.out.2.1 HD.out.2.2.1 HY.out HB.out HD.out.2.2.2.2.1 HD.out.2.2.2.2.2 hR3 ht3 hm3 hf3; clear hR3 ht3 hm3 hf3)
        go_roundw
        case rel => exact ⟨k + 1, by omega, by go_num, H3.out⟩
        case measure => simp [intOf]; omega
      · omega
    · have hkl : k = 4086 := by omega
      have j0 : (k : Int) = 4086 := by omega
      have hm2 : ((D.m : Nat) : Int) = 4086 := by rw [hm]; omega
      have HM : Hid _ := hm2
      clear hR hB hb HI hn hm hf hap hfr hg0 hm2 hkl hlt hk
      go_wp2_with (go_at_call 13; refine (writes_any b D _ HD.out.1).mono ?_; rintro e w4 ⟨g, rfl, _, _, _, hb4⟩; have H4 : Hid _ := hb4; have hm3 := HM.out; clear hb4)
      all_goals
        go_ret
        exact ⟨by simp, HX.out.below.trans (H4.out.mono HX.out.below.size)⟩
set_option maxHeartbeats 4000000 in
set_option maxRecDepth 20000 in
theorem walk_high (n : Int) (w : World) (h1 : 20 < n) : Calls Try.prog 7 #[.int .i64 n] w fun e w' => e = .returned (.bool true) ∧ Below w.heap.size w w' := by
  obtain ⟨i0, hi, hz0, hz1, hz2⟩ := info_parts info5
  go_enter Try.func7, Try.ntmps7
  go_wp2_with (first
    | (go_at_call 9; refine (shown_any _).mono ?_; rintro e w0 ⟨rfl, b0⟩; have H0 : Hid _ := b0; clear b0)
    | (go_at_call 10; refine (new_some 8 _ (by omega) (by omega)).mono ?_; rintro e w1 ⟨b, D, rfl, hR, hn, hm, hS, hF, hfr, hb1⟩; have HR : Hid (Rep w1 b D ∧ D.n = 8 ∧ D.m = 0 ∧ D.fresh b w0.heap.size ∧ Below w0.heap.size w0 w1) := ⟨hR, hn, hm, hfr, hb1⟩; clear hR hn hm hS hF hfr hb1)
    | (at_make; refine wpList_make_full _ rfl _ _ 43 rfl w1.heap.size 5 i0 (.int .u8 0) 1 Try.underlying43 hi hz0 hz1 .i64 .i64 _ _ 1024 rfl rfl rfl rfl (by rw [hz2]; decide) (by decide) (Nat.le_refl _) ?_; intro w2 hown2 hgrow2; have HB : Hid (BRow w2 w1.heap.size 1024 (fun _ => 0) ∧ Below w1.heap.size w1 w2) := ⟨BRow.made hown2, (Below.refl _ w1).grown hgrow2 (Nat.le_refl _) (fun k hk => by cases hk)⟩; clear hown2 hgrow2))
  have hI : Inv w b w1.heap.size 0 w2 := by
    obtain ⟨hR, hn, hm, hfr, hb⟩ := HR.out
    have s0 := H0.out.size
    have s1 := hb.size
    refine ⟨⟨D, fun _ => 0, hR.below HB.out.2, hn, by simpa using hm, HB.out.1, fun i _ => ⟨Int.le_refl _, by show (0 : Int) ≤ 255; decide⟩, fun hx => ?_, fun x hx => Nat.le_trans s0 (hfr x hx)⟩, ?_, by omega⟩
    · have := hR.lt _ hx; omega
    · exact (H0.out.trans (hb.mono s0)).trans (HB.out.2.mono (by omega))
  have HI : Hid _ := hI
  clear hI HB HR H0
  go_loopw [7] (fun i X => ∃ k : Nat, k ≤ 4086 ∧ i = .int .i64 k ∧ Inv w b w1.heap.size k X) (fun i _ => 4086 - (intOf i).toNat)
  case atStart => exact ⟨0, by omega, rfl, HI.out⟩
  case round =>
    obtain ⟨k, hk, rfl, hX⟩ := hrel
    have HX : Hid _ := hX
    obtain ⟨⟨D, f, hR, hn, hm, hB, hf, hap, hfr⟩, hb, hg0⟩ := hX
    have HD : Hid (Rep _ b D ∧ D.n = 8 ∧ D.m = min k 4096 ∧ (∀ i, i < 1024 → 0 ≤ f i ∧ f i ≤ 255) ∧ ¬ (D.mut b w1.heap.size ∨ D.fix w1.heap.size) ∧ D.fresh b w.heap.size) := ⟨hR, hn, hm, hf, hap, hfr⟩
    by_cases hlt : k < 4086
    · obtain ⟨c0, c1⟩ := hB.at (k := 0) (by omega)
      have HB : Hid _ := hB.set (k := 0) (by omega) ((k : Int) % 256)
      have HY : Hid _ := upd_byte (k := 0) (v := (k : Int) % 256) hf (by omega) (by omega)
      have HK : Hid _ := keepSet hR hap (.int .u8 ((k : Int) % 256))
      have j0 : (k : Int) < 4086 := by omega
      have hq : ((k : Int) % 8) = ((k % 8 : Nat) : Int) := by omega
      have HQ : Hid _ := hq
      by_cases h96 : k < 4096
      · have j1 : (k : Int) < 4096 := by omega
        clear hR hB hb HI hn hm hf hap hfr hg0 hq
        go_wp2_with (go_at_call 21; rw [HQ.out]; refine (write_good b D (k % 8) (some ⟨w1.heap.size, 0, none⟩) 1024 _ _ HK.out (by rw [HD.out.2.1]; omega) (by rw [HD.out.2.2.1]; omega) (HB.out.rd (by decide) HY.out)).mono ?_; rintro e w3 ⟨P, g, c, rfl, hR3, ht3, hm3, hf3⟩; have H3 : Hid (Inv w b w1.heap.size (k + 1) w3) := HX.out.wrote h96 HD.out.2.1 HD.out.2.2.1 HY.out HB.out HD.out.2.2.2.2.1 HD.out.2.2.2.2.2 hR3 ht3 hm3 hf3; clear hR3 ht3 hm3 hf3)
        go_roundw
        case rel => exact ⟨k + 1, by omega, by go_num, H3.out⟩
        case measure => simp [intOf]; omega
      · omega
    · have hkl : k = 4086 := by omega
      have j0 : (k : Int) = 4086 := by omega
      have hm2 : ((D.m : Nat) : Int) = 4086 := by rw [hm]; omega
      have HM : Hid _ := hm2
      clear hR hB hb HI hn hm hf hap hfr hg0 hm2 hkl hlt hk
      go_wp2_with (go_at_call 13; refine (writes_any b D _ HD.out.1).mono ?_; rintro e w4 ⟨g, rfl, _, _, _, hb4⟩; have H4 : Hid _ := hb4; have hm3 := HM.out; clear hb4)
      all_goals
        go_ret
        exact ⟨by simp, HX.out.below.trans (H4.out.mono HX.out.below.size)⟩
theorem walk (n : Int) (w : World) : Calls Try.prog 7 #[.int .i64 n] w fun e w' => e = .returned (.bool true) ∧ Below w.heap.size w w' := by
  by_cases h : 0 ≤ n ∧ n ≤ 20
  · exact walk_in n.toNat n w (by omega) (by omega) (by omega) (by omega)
  · by_cases h1 : n < 0
    · exact walk_low n w h1
    · exact walk_high n w (by omega)
set_option maxRecDepth 100000 in
theorem lifted (os : Os) (started : os.Started) (H : Type) (enc : TypeId × Value → H) :
    ReturnsInHanded {} Try.checked os 7 .any (Rows.diskWearsSpec.pre6 enc Try.prog Try.f7 Rows.diskWearsRow.domain false) (Rows.diskWearsSpec.post enc Try.prog Try.f7 false true false false) := by
  refine returnsInHanded_of_change (C := Try.checked) own started (by kernel_rfl) Try.func7
    (ChangeSpec.witness6 (enc := enc) (C := Try.checked) false ⟨#[], #[.int .i64 0], []⟩ 8 (by kernel_rfl) (by kernel_rfl) (by kernel_rfl) (by kernel_rfl)) ?_
  intro W base args ds gs before hval0 hW hcnd _
  have hval : ∀ (j : Nat) t v, Try.f7.params[j]? = some t → args[j]? = some v → Value.okWide Try.prog W .any base t v := hval0
  have hW' := hW
  obtain ⟨p, q, hA0, hV, rfl, hfz, hnd⟩ := hW
  have hA : DataW.TrodAll enc Try.prog W 0 (fun _ => true) true Try.f7.params.toList args.toList ds p := hA0
  rw [Try.params7] at hA hval
  obtain ⟨v0, vs0, d0, ds0, p0, q0, hargs, rfl, rfl, h0, r0⟩ := trodAll_cons hA
  obtain ⟨rfl, rfl, rfl⟩ := trodAll_nil r0
  obtain rfl : args = #[v0] := by cases args; simp_all
  obtain ⟨rfl, rfl⟩ := trodVars_none hV
  obtain ⟨a0, rfl, rfl, rfl, w0⟩ := open_int Try.underlying3 (hval 0 3 v0 rfl rfl) h0
  clear hA0 hval0
  simp only [List.append_nil] at hW'
  refine (walk a0 W).mono fun e W' ⟨he, hg⟩ => ?_
  subst he
  exact ⟨_, rfl, _, _, _, [], _, [], hW', trodAll_mk1 (shut_bool Try.underlying4 _), (trodAll_cons_mk (shut_int Try.underlying3 w0) trodAll_mk0), rfl, hg.frame _, fun h => by cases h⟩
theorem over : Rows.diskWearsRow.holds Try.pinned (OpenSpec.ofChange Rows.diskWearsSpec) :=
  OpenClaim.holds_of_wide 7 Try.f7 rfl rfl rfl rfl rfl rfl rfl ⟨rfl, rfl, rfl, rfl, rfl⟩ rfl rfl rfl rfl rfl (by kernel_rfl) Try.func7 (by kernel_rfl)
    (of_decide_eq_true (by kernel_rfl)) (by unfold Func.isWrapper; first | (rw [if_pos (by decide +kernel)]; kernel_rfl) | (rw [if_neg (by decide +kernel)]; exact ⟨rfl, rfl⟩))
    (fun os started H enc _ => lifted os started H enc)
end diskWears
/-- The given statement. -/
theorem diskWears_holds : Rows.DiskWearsSaid := diskWears.over
#print axioms diskWears_holds
end Go.Proofs.Ythkpohlgekfnjaa
