/-
  What the law's helper shown comes to; what a nil disk answers.
-/
import Derived.Test.YthkpohlgekfnjaaRows2
namespace Go.Proofs.Ythkpohlgekfnjaa
open Go.ChangeShapes Go.WideShapes Go.ChangeAt Go.RowKit
attribute [local go_sem ↓] loadSec_seal storeSec_seal eqlSec_seal zeroSec
attribute [local go_sem] loadSec_run storeSec_run rowAt_at rowAt_old rowAt_drew rowAt_drewN roomSec_new roomAt_old roomAt_drew roomAt_drewN putSec_new putRow_past rowSec_put size_put putRow_drew putRow_drewN alloc_drewN setCell_drewN sec_size

theorem sectors_nil (w : World) : Calls Try.prog 16 #[.pointer none] w fun e w' => e = .returned (.int .i64 0) ∧ Below w.heap.size w w' := by
  go_enter Try.func16, Try.ntmps16
  go_wp2
  go_ret
  exact ⟨rfl, by go_grown⟩
theorem writes_nil (w : World) : Calls Try.prog 13 #[.pointer none] w fun e w' => e = .returned (.slice none 0 0) ∧ Below w.heap.size w w' := by
  go_enter Try.func13, Try.ntmps13
  go_wp2
  go_ret
  exact ⟨rfl, by go_grown⟩
theorem image_nil (w : World) : Calls Try.prog 17 #[.pointer none] w fun e w' => e = .returned (.slice none 0 0) ∧ Below w.heap.size w w' := by
  go_enter Try.func17, Try.ntmps17
  go_wp2
  go_ret
  exact ⟨rfl, by go_grown⟩
theorem cut_nil (n : Int) (w : World) : Calls Try.prog 20 #[.pointer none, .int .i64 n] w fun e w' => e = .returned (.tuple #[.pointer none, .int .i64 1]) ∧ Below w.heap.size w w' := by
  go_enter Try.func20, Try.ntmps20
  go_wp2
  go_ret2
  exact ⟨rfl, by go_grown⟩
theorem Tou.fresh {w w1 w2 : World} {b : Nat} {D : Dk} (h : Tou (D.mut b) w1 w2) (hs : w.heap.size ≤ w1.heap.size) (hf : D.fresh b w.heap.size) : Below w.heap.size w1 w2 := h.below hs fun x hx => hf x (.inl hx)
theorem wroteS_at (D : Dk) (n P : Nat) (f : Nat → Int) (g c : Nat) : (D.wrote n P f g c).S n = f := show upd D.S n f n = f from upd_at D.S n f
theorem wroteS_ne (D : Dk) (n P : Nat) (f : Nat → Int) (g c : Nat) {i : Nat} (h : i ≠ n) : (D.wrote n P f g c).S i = D.S i := show upd D.S n f i = D.S i from upd_ne D.S f h
def nineF : Nat → Int := upd (fun _ => 0) 5 9
theorem nine_byte : ∀ i, i < 1024 → 0 ≤ nineF i ∧ nineF i ≤ 255 := fun i _ => by
  unfold nineF upd; split <;> simp
set_option maxHeartbeats 2000000 in
theorem shown_any (w : World) : Calls Try.prog 9 #[] w fun e w' => e = .returned (.bool true) ∧ Below w.heap.size w w' := by
  obtain ⟨i0, hi, hz0, hz1, hz2⟩ := info_parts info5
  go_enter Try.func9, Try.ntmps9
  go_wp2_with (first
    | (go_at_call 10; refine (new_some 8 _ (by omega) (by omega)).mono ?_; rintro e w1 ⟨b, D, rfl, hR, hn, hm, hS, hF, hfr, hb1⟩; have HR : Hid (Rep w1 b D ∧ D.n = 8 ∧ D.m = 0 ∧ D.fresh b w.heap.size ∧ Below w.heap.size w w1) := ⟨hR, hn, hm, hfr, hb1⟩; clear hR hn hm hS hF hfr hb1)
    | (at_make; refine wpList_make_full _ rfl _ _ 43 rfl w1.heap.size 5 i0 (.int .u8 0) 1 Try.underlying43 hi hz0 hz1 .i64 .i64 _ _ 1024 rfl rfl rfl rfl (by rw [hz2]; decide) (by decide) (Nat.le_refl _) ?_; intro w2 hown2 hgrow2; have hB := BRow.made hown2; have hc5 := (hB.at (k := 5) (by omega)).1; have hf5 := (hB.at (k := 5) (by omega)).2; have HB : Hid (BRow w2 w1.heap.size 1024 (fun _ => 0) ∧ Below w1.heap.size w1 w2) := ⟨hB, (Below.refl _ w1).grown hgrow2 (Nat.le_refl _) (fun k hk => by cases hk)⟩; clear hown2 hgrow2 hB)
    | (go_at_call 21; refine (write_good b D 3 (some ⟨w1.heap.size, 0, none⟩) 1024 nineF _ (HR.out.1.below ((HB.out.2).setCell (Nat.le_refl _) _)) (by rw [HR.out.2.1]; omega) (by rw [HR.out.2.2.1]; omega) ((HB.out.1.set (by omega) 9).rd (by decide) nine_byte)).mono ?_; rintro e w3 ⟨P, g, c, rfl, hR3, ht3, _, _⟩; have HW : Hid (Rep w3 b (D.wrote 3 P nineF g c) ∧ Tou (D.mut b) (w2.setCell ⟨w1.heap.size, 5, none⟩ (.int .u8 9)) w3 ∧ BRow w3 w1.heap.size 1024 nineF) := ⟨hR3, ht3, (HB.out.1.set (by omega) 9).same (ht3.block _ (by have := HB.out.1.lt; simpa using this) (fun hm => by have := HR.out.1.lt _ (.inl hm); omega))⟩; clear hR3 ht3 hc5 hf5)
    | (go_at_call 23; refine (read_good b _ 3 _ HW.out.1 (by show 3 < D.n; rw [HR.out.2.1]; omega)).mono ?_; rintro e w4 ⟨r, rfl, hr1, hr2, hr3, hr4, hb4⟩; have hx : (convert 43 9 (.slice (some ⟨r, 0, none⟩) 1024 1024)).run Try.prog w4 = .ok (.string (strF nineF 1024)) w4 := conv_str 1024 (sec_rd (by rw [hr2, wroteS_at]) nine_byte); have hy : (convert 43 9 (.slice (some ⟨w1.heap.size, 0, none⟩) 1024 1024)).run Try.prog w4 = .ok (.string (strF nineF 1024)) w4 := conv_str 1024 ((HW.out.2.2.same (hb4.block _ HW.out.2.2.lt)).rd (by decide) nine_byte); have H4 : Hid (Below w3.heap.size w3 w4) := hb4; clear hr1 hr2 hr3 hr4 hb4))
  go_ret
  refine ⟨by simp, ?_⟩
  have s1 := HR.out.2.2.2.2.size
  have s2 := HB.out.2.size
  have b2 : Below w.heap.size w (w2.setCell ⟨w1.heap.size, 5, none⟩ (.int .u8 9)) := (HR.out.2.2.2.2.trans (HB.out.2.mono s1)).setCell s1 _
  have b3 := b2.trans (Tou.fresh HW.out.2.1 b2.size HR.out.2.2.2.1)
  exact b3.trans (H4.out.mono b3.size)
end Go.Proofs.Ythkpohlgekfnjaa
