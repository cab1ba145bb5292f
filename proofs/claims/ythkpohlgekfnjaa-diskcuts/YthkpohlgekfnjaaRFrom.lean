/-
  The document's disk from an image.
-/
import Derived.Test.YthkpohlgekfnjaaRNew
namespace Go.Proofs.Ythkpohlgekfnjaa
open Go.ChangeShapes Go.WideShapes Go.ChangeAt Go.RowKit
attribute [local go_sem ↓] loadSec_seal storeSec_seal eqlSec_seal zeroSec
attribute [local go_sem] loadSec_run storeSec_run rowAt_at rowAt_old rowAt_drew rowAt_drewN roomSec_new roomAt_old roomAt_drew roomAt_drewN putSec_new putRow_past rowSec_put size_put putRow_drew putRow_drewN alloc_drewN setCell_drewN sec_size

set_option linter.unusedVariables false
theorem rfrom_size (a : Option Addr) (len cap : Nat) (w : World) (h3 : len ≤ maxLen) (h : (len : Int) / 1024 < 8 ∨ (8 ≤ (len : Int) / 1024 ∧ 1024 < (len : Int) / 1024)) : Calls Try.prog 19 #[.slice a len cap] w fun e w' => e = .returned (.tuple #[.pointer none, .int .i64 30]) ∧ Below w.heap.size w w' := by
  unfold maxLen at h3
  have h4 : (len : Int) / 1024 ≤ 9223372036854775807 := by omega
  have h5 : (0 : Int) ≤ (len : Int) / 1024 := by omega
  rcases h with h | ⟨h, h6⟩
  all_goals
    go_enter Try.func19, Try.ntmps19
    go_wp2
    go_ret2
    exact ⟨rfl, by go_grown⟩
theorem rfrom_part (a : Option Addr) (len cap : Nat) (w : World) (h3 : len ≤ maxLen) (h : 8 ≤ (len : Int) / 1024) (h6 : (len : Int) / 1024 ≤ 1024) (h7 : ¬ (len : Int) % 1024 = 0) : Calls Try.prog 19 #[.slice a len cap] w fun e w' => e = .returned (.tuple #[.pointer none, .int .i64 30]) ∧ Below w.heap.size w w' := by
  unfold maxLen at h3
  have h4 : (len : Int) / 1024 ≤ 9223372036854775807 := by omega
  have h5 : (0 : Int) ≤ (len : Int) / 1024 := by omega
  have h8 : IntKind.i64.wrap ((len : Int) / 1024 * 1024) = (len : Int) / 1024 * 1024 := by rw [IntWalk.i64_left, IntWalk.wrap64_in]; omega
  have h9 : ¬ (len : Int) = (len : Int) / 1024 * 1024 := by omega
  have h10 : ((len : Int) != (len : Int) / 1024 * 1024) = true := by simp; omega
  go_enter Try.func19, Try.ntmps19
  go_wp2
  go_ret2
  exact ⟨rfl, by go_grown⟩
set_option maxHeartbeats 4000000 in
theorem rfrom_good (b off n cap : Nat) (f : Nat → Int) (w : World) (n0 : 8 ≤ n) (n1 : n ≤ 1024) (hr : RdB w (some ⟨b, off, none⟩) (n * 1024) f) (hlc : n * 1024 ≤ cap) : Calls Try.prog 19 #[.slice (some ⟨b, off, none⟩) (n * 1024 : Nat) cap] w fun e w' => ∃ r, e = .returned (.tuple #[.pointer (some ⟨r, 0, none⟩), .int .i64 0]) ∧ Below w.heap.size w w' := by
  obtain ⟨i0, hi, hz0, hz1, hz2⟩ := info_parts info9
  have hq : ((n * 1024 : Nat) : Int) / 1024 = (n : Int) := by omega
  have hm9 : IntKind.i64.wrap ((n : Int) * 1024) = ((n * 1024 : Nat) : Int) := by rw [IntWalk.i64_left, IntWalk.wrap64_in] <;> omega
  have HRd : Hid (RdB w (some ⟨b, off, none⟩) (n * 1024) f) := hr
  clear hr
  go_enter Try.func19, Try.ntmps19
  go_wp2
  go_loopw [6] (fun i X => ∃ k : Nat, k ≤ n ∧ i = .int .i64 k ∧ RIn w w.heap.size k (fun i => strF (fun j => f (i * 1024 + j)) 1024) X) (fun i _ => n - (intOf i).toNat)
  case atStart => exact ⟨0, by omega, rfl, RIn.start w _ _⟩
  case round =>
    obtain ⟨k, hk, rfl, hX⟩ := hrel
    have HX : Hid _ := hX
    by_cases hlt : k < n
    · obtain ⟨R, hR, hn, hm, hF, hmu⟩ := hX.ex
      obtain ⟨c0, f0⟩ := hR.cell0
      obtain ⟨fa, fc, hfv⟩ := ownV hR.first
      have HR : Hid (RepR wr w.heap.size R ∧ R.n = k ∧ R.m = 0 ∧ (∀ i, i < k → R.F i = strF (fun j => f (i * 1024 + j)) 1024) ∧ (∀ x, R.mut w.heap.size x → w.heap.size ≤ x) ∧ R.fv = .slice fa R.n fc) := ⟨hR, hn, hm, hF, hmu, hfv⟩
      have r0 : w.heap.size < wr.heap.size := hR.lt _ (.inl rfl)
      have j0 : (0 : Int) ≤ (k : Int) := by omega
      have j1 : (k : Int) < (n : Int) := by omega
      have hmul : IntKind.i64.wrap ((k : Int) * 1024) = (k : Int) * 1024 := by rw [IntWalk.i64_left, IntWalk.wrap64_in]; omega
      have hadd : IntKind.i64.wrap ((k : Int) + 1) = (k : Int) + 1 := by rw [IntWalk.i64_left, IntWalk.wrap64_in]; omega
      have hmul2 : IntKind.i64.wrap (((k : Int) + 1) * 1024) = ((k : Int) + 1) * 1024 := by rw [IntWalk.i64_left, IntWalk.wrap64_in]; omega
      have hmn : ((k : Int) * 1024).toNat = k * 1024 := by omega
      have hmn2 : (((k : Int) + 1) * 1024).toNat = k * 1024 + 1024 := by omega
      have m1 : (0 : Int) ≤ (k : Int) * 1024 := by omega
      have m2 : (k : Int) * 1024 ≤ ((k : Int) + 1) * 1024 := by omega
      have m2' : ((k : Int) + 1) * 1024 ≤ (cap : Int) := by omega
      have m3 : ¬ cap = k * 1024 := by omega
      have m4 : (0 : Int) ≤ ((k : Int) + 1) * 1024 := by omega
      have m5 : (k : Int) * 1024 ≤ (k : Int) * 1024 + 1024 := by omega
      have m6 : (k : Int) * 1024 + 1024 ≤ (cap : Int) := by omega
      have m7 : (0 : Int) ≤ (k : Int) * 1024 + 1024 := by omega
      have hconv0 := conv_str (w := wr.drew) (cap - k * 1024) (rd_part (HRd.out.below HX.out.below.drew) (show k < n by omega))
      have hconv1 := conv_str (w := wr.drew.drew) (cap - k * 1024) (rd_part (HRd.out.below HX.out.below.drew.drew) (show k < n by omega))
      clear hR hn hm hF hmu hX hfv
      go_wp2
      go_region_law (refine step_append_lies _ rfl _ _ 38 rfl 0 9 i0 (.string ⟨#[]⟩) 1 16 Try.underlying38 hi hz0 hz1 hz2 rfl (by decide) R.fv R.n (strs R.F R.n) rfl (own_same HR.out.1.first (fun x hx => Below.heap_alloc _ _ _ (HR.out.1.lt x (.inr (.inl hx))))) ⟨wr.heap.size, 0, none⟩ 1 1 [.string (strF (fun j => f (k * 1024 + j)) 1024)] rfl rfl (one_src _ _ _ _ rfl) (by simp [Value.oneCell']) (by omega) (by unfold maxLen; have := HR.out.2.1; omega) (by have := HR.out.2.1; omega) (Nat.zero_le _) _ rfl ?_; intro g c w5 hown hgrow hat hlt; obtain ⟨d0, d1⟩ := back_cells HR.out.1 (Below.refl _ wr).drew hgrow; have HS : Hid (RIn w w.heap.size (k + 1) (fun i => strF (fun j => f (i * 1024 + j)) 1024) (w5.setCell ⟨w.heap.size, 0, none⟩ (.slice (some ⟨g, 0, none⟩) (R.n + 1) c))) := HX.out.step (by omega) (Below.refl _ wr).drew HR.out.1 HR.out.2.1 HR.out.2.2.1 HR.out.2.2.2.1 HR.out.2.2.2.2.1 hown hgrow (hat.imp id (fun h => by simpa using h)); clear hown hgrow hat hlt)
      all_goals
        go_wp2
        go_roundw
        case rel => exact ⟨k + 1, by omega, by go_num, HS.out⟩
        case measure => simp [intOf]; omega
    · clear hX
      go_wp2
      go_ret2
      exact ⟨w.heap.size, rfl, HX.out.below⟩
end Go.Proofs.Ythkpohlgekfnjaa
