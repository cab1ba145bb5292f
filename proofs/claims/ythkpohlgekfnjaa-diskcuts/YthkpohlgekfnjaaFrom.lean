/-
  A disk from an image.
-/
import Derived.Test.YthkpohlgekfnjaaImage
namespace Go.Proofs.Ythkpohlgekfnjaa
open Go.ChangeShapes Go.WideShapes Go.ChangeAt Go.RowKit
attribute [local go_sem ↓] loadSec_seal storeSec_seal eqlSec_seal zeroSec
attribute [local go_sem] loadSec_run storeSec_run rowAt_at rowAt_old rowAt_drew rowAt_drewN roomSec_new roomAt_old roomAt_drew roomAt_drewN putSec_new putRow_past rowSec_put size_put putRow_drew putRow_drewN alloc_drewN setCell_drewN sec_size

theorem from_part (a : Option Addr) (len cap : Nat) (w : World) (h : ¬ len % 1024 = 0) : Calls Try.prog 18 #[.slice a len cap] w fun e w' => e = .returned (.tuple #[.pointer none, .int .i64 30]) ∧ Below w.heap.size w w' := by
  have h1 : ¬ (len : Int) % 1024 = 0 := by omega
  go_enter Try.func18, Try.ntmps18
  go_wp2
  go_ret2
  exact ⟨rfl, by go_grown⟩
theorem from_size (a : Option Addr) (len cap : Nat) (w : World) (h : len % 1024 = 0) (h2 : isSizeB ((len : Int) / 1024) = false) (h3 : len ≤ maxLen) : Calls Try.prog 18 #[.slice a len cap] w fun e w' => e = .returned (.tuple #[.pointer none, .int .i64 30]) ∧ Below w.heap.size w w' := by
  have h1 : (len : Int) % 1024 = 0 := by omega
  unfold maxLen at h3
  have h4 : (len : Int) / 1024 ≤ 9223372036854775807 := by omega
  have h5 : (0 : Int) ≤ (len : Int) / 1024 := by omega
  go_enter Try.func18, Try.ntmps18
  go_wp2_with (go_at_call 24; refine (isSize_any _ _).mono ?_; rintro e w1 ⟨rfl, hb⟩)
  go_ret2
  exact ⟨rfl, hb⟩
/-- The row of places, filled up to k, with the sectors that they lead to. -/
structure FillS (w : World) (G B n k : Nat) (f : Nat → Int) (X : World) : Prop where
  ex : ∃ p, Fill w G n k p X ∧ ∀ i, i < k → rowAt X (p i) = some (sec fun j => f (i * 1024 + j)) ∧ w.heap.size ≤ p i
  blank : rowAt X B = some (sec fun _ => 0)
  neB : B ≠ G
  B0 : w.heap.size ≤ B
theorem FillS.below {w X : World} {G B n k : Nat} {f : Nat → Int} (h : FillS w G B n k f X) : Below w.heap.size w X := by
  obtain ⟨p, hF, _⟩ := h.ex
  exact hF.below
theorem Fill.lt {w X : World} {G n k : Nat} {p : Nat → Nat} (h : Fill w G n k p X) : G < X.heap.size := by
  obtain ⟨cur, hg, _⟩ := h.row
  rcases Nat.lt_or_ge G X.heap.size with h1 | h1
  · exact h1
  · rw [Array.getElem?_eq_none h1] at hg; cases hg
theorem FillS.step {w X Y : World} {G B n k P : Nat} {f : Nat → Int} (h : FillS w G B n k f X) (hk : k < n) (hP : rowAt Y P = some (sec fun j => f (k * 1024 + j))) (hPn : P = B ∨ P = X.heap.size) (hb : Below X.heap.size X Y) (hne : ∀ i, i < k → ∀ p, Fill w G n k p X → (∀ i, i < k → rowAt X (p i) = some (sec fun j => f (i * 1024 + j)) ∧ w.heap.size ≤ p i) → p i ≠ G) : FillS w G B n (k + 1) f (Y.setCell ⟨G, k, none⟩ (.pointer (some ⟨P, 0, none⟩))) := by
  obtain ⟨p, hF, hs⟩ := h.ex
  have hl := hF.lt
  have hbw : Below w.heap.size w Y := hF.below.trans (hb.mono hF.below.size)
  have hFY : Fill w G n k (upd p k P) Y := by
    obtain ⟨cur, hg, hsz, hc⟩ := hF.row
    refine ⟨hbw, hF.old, cur, (hb.block G hl).trans hg, hsz, fun i hi => ?_⟩
    rw [upd_ne _ _ (by omega)]; exact hc i hi
  have st := hFY.step hk
  rw [upd_at] at st
  have PG : P ≠ G := by
    rcases hPn with e | e
    · rw [e]; exact h.neB
    · omega
  refine ⟨⟨upd p k P, st, fun i hi => ?_⟩, ?_, h.neB, h.B0⟩
  · by_cases e : i = k
    · subst e
      rw [upd_at]
      refine ⟨(rowAt_setCell PG).trans hP, ?_⟩
      have := h.B0
      have := hF.below.size
      omega
    · rw [upd_ne _ _ e]
      have hi' : i < k := by omega
      refine ⟨?_, (hs i hi').2⟩
      rw [rowAt_setCell (hne i hi' p hF hs)]
      exact (rowAt_below hb _ (rowAt_lt (hs i hi').1)).trans (hs i hi').1
  · rw [rowAt_setCell h.neB]
    exact (rowAt_below hb _ (rowAt_lt h.blank)).trans h.blank
/-- A sector's cells are bytes: no row of places is one. -/
theorem sec_ne_fill {w X : World} {G n k P : Nat} {p : Nat → Nat} {f : Nat → Int} (hF : Fill w G n k p X) (hk : 0 < k) (h : rowAt X P = some (sec f)) : P ≠ G := by
  intro e
  subst e
  obtain ⟨cur, hg, hs, hc⟩ := hF.row
  have c0 := hc 0 hk
  unfold rowAt at h
  rw [hg] at h
  have e2 : cur = sec f := Option.some.inj h
  rw [e2, sec_at f (by omega)] at c0
  cases c0
theorem rd_part {X : World} {b off n k : Nat} {f : Nat → Int} (h : RdB X (some ⟨b, off, none⟩) (n * 1024) f) (hk : k < n) : RdB X (some ⟨b, off + k * 1024, none⟩) 1024 fun j => f (k * 1024 + j) := by
  rcases h.2 with h0 | ⟨b', off', e, hc⟩
  · omega
  · simp at e
    obtain ⟨rfl, rfl⟩ := e
    refine ⟨by decide, .inr ⟨b, off + k * 1024, rfl, fun i hi => ?_⟩⟩
    have := hc (k * 1024 + i) (by omega)
    rw [Nat.add_assoc]; exact this
theorem rd_byte {X : World} {a : Option Addr} {n i : Nat} {f : Nat → Int} (h : RdB X a n f) (hi : i < n) : 0 ≤ f i ∧ f i ≤ 255 := by
  rcases h.2 with h0 | ⟨b', off', e, hc⟩
  · omega
  · exact (hc i hi).2
set_option maxHeartbeats 2000000 in
theorem from_good (b off n cap : Nat) (f : Nat → Int) (w : World) (n0 : 8 ≤ n) (n1 : n ≤ 1024) (hr : RdB w (some ⟨b, off, none⟩) (n * 1024) f) (hlc : n * 1024 ≤ cap) : Calls Try.prog 18 #[.slice (some ⟨b, off, none⟩) (n * 1024 : Nat) cap] w fun e w' => ∃ d D, e = .returned (.tuple #[.pointer (some ⟨d, 0, none⟩), .int .i64 0]) ∧ Rep w' d D ∧ D.n = n ∧ D.m = 0 ∧ D.S = (fun i j => f (i * 1024 + j)) ∧ D.fresh d w.heap.size ∧ Below w.heap.size w w' := by
  have h1 : ((n * 1024 : Nat) : Int) % 1024 = 0 := by omega
  have hq : ((n * 1024 : Nat) : Int) / 1024 = (n : Int) := by omega
  have hz : isSizeB n = true := by simp [isSizeB]; omega
  obtain ⟨i0, hi, hz0, hz1, hz2⟩ := info_parts info58
  have HR : Hid (RdB w (some ⟨b, off, none⟩) (n * 1024) f) := hr
  clear hr
  go_enter Try.func18, Try.ntmps18
  go_wp2_with (first
    | (go_at_call 24; refine (isSize_any _ _).mono ?_; rintro e w1 ⟨rfl, hb1⟩; have HB1 : Hid _ := hb1; clear hb1)
    | (at_make; refine wpList_make_full _ rfl _ _ 57 rfl w1.heap.size 58 i0 (.pointer none) 1 Try.underlying57 hi hz0 hz1 .i64 .i64 _ _ n rfl rfl (by omega) (by omega) (by rw [hz2]; omega) (by unfold maxLen; omega) (Nat.le_refl _) ?_; intro w2 hown2 hgrow2; have HF : Hid (Fill w1 w1.heap.size n 0 (fun _ => 0) w2) := fill0 _ hown2 hgrow2; have hsz : w1.heap.size < w2.heap.size := (hown2.lt _ rfl).2; clear hown2 hgrow2))
  go_loopw [25] (fun i X => ∃ k : Nat, k ≤ n ∧ i = .int .i64 k ∧ FillS w1 w1.heap.size w2.heap.size n k f X) (fun i _ => n - (intOf i).toNat)
  case atStart => exact ⟨0, by omega, rfl, ⟨⟨fun _ => 0, HF.out.alloc _, fun i hi => by omega⟩, rowAt_new _ _ _ _, by omega, by omega⟩⟩
  case round =>
    obtain ⟨k, hk, rfl, hX⟩ := hrel
    have HX : Hid _ := hX
    by_cases hlt : k < n
    · have j0 : (0 : Int) ≤ (k : Int) := by omega
      have j1 : (k : Int) < (n : Int) := by omega
      have hmul : IntKind.i64.wrap ((k : Int) * 1024) = (k : Int) * 1024 := by rw [IntWalk.i64_left, IntWalk.wrap64_in]; omega
      have hmn : ((k : Int) * 1024).toNat = k * 1024 := by omega
      have m1 : (0 : Int) ≤ (k : Int) * 1024 := by omega
      have m2 : (k : Int) * 1024 ≤ ((n * 1024 : Nat) : Int) := by omega
      have m3 : ¬ cap = k * 1024 := by omega
      clear hX HF
      have HH : Hid (RdB _ (some ⟨b, off + k * 1024, none⟩) 1024 fun j => f (k * 1024 + j)) := rd_part (HR.out.below (HB1.out.trans (HX.out.below.mono HB1.out.size))) (by omega)
      have hFz := HX.out
      obtain ⟨pz, hFz, _⟩ := hFz.ex
      obtain ⟨⟨v0, hv0⟩, hfz⟩ := hFz.at hlt
      have HGl : Hid _ := hFz.lt
      clear hFz
      go_wp2_with (go_at_call 30; refine (holding_any _ _ (fun j => f (k * 1024 + j)) (fun _ => 0) w2.heap.size _ HH.out HX.out.blank byte0).mono ?_; rintro e w3 ⟨P, rfl, hP1, hP2, hP3, hb3⟩; have HS : Hid (FillS w1 w1.heap.size w2.heap.size n (k + 1) f (w3.setCell ⟨w1.heap.size, k, none⟩ (.pointer (some ⟨P, 0, none⟩)))) := HX.out.step hlt hP1 hP2 hb3 (fun i hi p hF hs => sec_ne_fill hF (by omega) (hs i hi).1); have d1 : w3.cell? ⟨w1.heap.size, k, none⟩ = some v0 := (hb3.cell (p := ⟨w1.heap.size, k, none⟩) HGl.out).trans hv0; have d2 : w3.frozen? ⟨w1.heap.size, k, none⟩ = false := (World.frozen?_of_block (hb3.block _ HGl.out)).trans hfz; clear hP1 hP2 hP3 hb3)
      go_roundw
      case rel => exact ⟨k + 1, by omega, by go_num, HS.out⟩
      case measure => simp [intOf]; omega
    · have hkn : k = n := by omega
      subst hkn
      obtain ⟨p, hF, hs⟩ := hX.ex
      have HFs : Hid (Fill w1 w1.heap.size k k p _ ∧ ∀ i, i < k → rowAt _ (p i) = some (sec fun j => f (i * 1024 + j)) ∧ w1.heap.size ≤ p i) := ⟨hF, hs⟩
      have HBy : Hid (∀ i, i < k → ByteF fun j => f (i * 1024 + j)) := fun i hi j hj => rd_byte HR.out (by omega)
      clear hX HF hF hs
      go_wp2_with (go_at_call 25; refine (made_any w1.heap.size k k p (fun i j => f (i * 1024 + j)) _ n0 n1 (HFs.out.1.own n1) (fun i hi => ⟨(HFs.out.2 i hi).1, HBy.out i hi⟩)).mono ?_; rintro e w3 ⟨d, h, c, rfl, hrep, hbb, hhh, hb3⟩)
      go_ret2
      have sz := HFs.out.1.below.size
      have sz1 := HB1.out.size
      refine ⟨d, _, rfl, hrep, rfl, rfl, rfl, ?_, (HB1.out.trans (HFs.out.1.below.mono sz1)).trans (hb3.mono (by omega))⟩
      rintro x ((rfl | rfl | hx) | (rfl | ⟨i, hi, rfl⟩ | ⟨i, hi, rfl⟩ | ⟨j, hj, _⟩))
      · omega
      · omega
      · simp [Dk.made, Value.ownBlock] at hx
      · show w.heap.size ≤ w1.heap.size; omega
      · have := (HFs.out.2 i hi).2; show w.heap.size ≤ p i; omega
      · have := (HFs.out.2 i hi).2; show w.heap.size ≤ p i; omega
      · simp [Dk.made] at hj
end Go.Proofs.Ythkpohlgekfnjaa
