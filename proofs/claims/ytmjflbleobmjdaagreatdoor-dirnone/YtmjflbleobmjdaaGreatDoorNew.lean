/-
  A new disk.
-/
import Derived.Test.YtmjflbleobmjdaaGreatDoorRep
namespace Go.Proofs.YtmjflbleobmjdaaGreatDoor
open Go.ChangeShapes Go.WideShapes Go.ChangeAt Go.RowKit
attribute [local go_sem ↓] loadSec_seal storeSec_seal eqlSec_seal zeroSec
attribute [local go_sem] loadSec_run storeSec_run rowAt_at rowAt_old rowAt_drew rowAt_drewN roomSec_new roomAt_old roomAt_drew roomAt_drewN putSec_new putRow_past rowSec_put size_put putRow_drew putRow_drewN alloc_drewN setCell_drewN sec_size

set_option linter.unusedVariables false

/-- A row of places, filled up to k. -/
structure Fill (w : World) (G n k : Nat) (p : Nat → Nat) (X : World) : Prop where
  below : Below w.heap.size w X
  old : w.heap.size ≤ G
  row : ∃ cur : Array Value, X.heap[G]? = some (.cells cur 78 (0, 0)) ∧ cur.size = n ∧ ∀ i, i < k → cur[i]? = some (.pointer (some ⟨p i, 0, none⟩))
theorem Fill.at {w X : World} {G n k : Nat} {p : Nat → Nat} (h : Fill w G n k p X) (hk : k < n) : (∃ v, X.cell? ⟨G, k, none⟩ = some v) ∧ X.frozen? ⟨G, k, none⟩ = false := by
  obtain ⟨cur, hg, hs, _⟩ := h.row
  refine ⟨⟨cur[k]'(by omega), ?_⟩, by simp [World.frozen?, hg]⟩
  rw [cell_of_row X G k cur _ (0, 0) hg]; simp [hs, hk]
theorem Fill.step {w X : World} {G n k : Nat} {p : Nat → Nat} (h : Fill w G n k p X) (hk : k < n) : Fill w G n (k + 1) p (X.setCell ⟨G, k, none⟩ (.pointer (some ⟨p k, 0, none⟩))) := by
  obtain ⟨cur, hg, hs, hc⟩ := h.row
  refine ⟨h.below.setCell h.old _, h.old, cur.setIfInBounds k (.pointer (some ⟨p k, 0, none⟩)), Go.Joins.block_setCell (i := k) hg _, by simpa using hs, fun i hi => ?_⟩
  by_cases e : i = k
  · subst e; simp [hs, hk]
  · rw [Array.getElem?_setIfInBounds_ne (Ne.symm e)]; exact hc i (by omega)
theorem Fill.own {w X : World} {G n : Nat} {p : Nat → Nat} (h : Fill w G n n p X) (hn : n ≤ 1024) : X.ownsRow 0 78 1 (.slice (some ⟨G, 0, none⟩) n n) n (ptrs p n) := by
  obtain ⟨cur, hg, hs, hc⟩ := h.row
  refine ⟨by simp [ptrs], .inr ⟨G, n, cur, rfl, Nat.zero_le _, hg, Nat.le_refl _, by unfold maxLen; omega, by omega, ?_⟩⟩
  apply List.ext_getElem?
  intro i
  by_cases hi : i < n
  · rw [ptrs_at p hi, List.getElem?_take, if_pos (by omega)]; simpa using hc i hi
  · rw [List.getElem?_eq_none (by simp; omega), List.getElem?_eq_none (by simp [ptrs]; omega)]
theorem fill0 {w w1 : World} {n : Nat} (p : Nat → Nat) (h : w1.ownsRow w.heap.size 78 1 (.slice (some ⟨w.heap.size, 0, none⟩) n n) n (madeCells (Value.pointer none).cells (n * 1)).toList) (hg : w.grownBy w1 none) : Fill w w.heap.size n 0 p w1 := by
  refine ⟨(Below.refl _ w).grown hg (Nat.le_refl _) (fun k hk => by cases hk), Nat.le_refl _, ?_⟩
  rcases h.2 with ⟨h0, _⟩ | ⟨g', cap, cur, hv, _, hg, _, _, hs, ht⟩
  · simp at h0
  · simp at hv
    obtain ⟨rfl, rfl⟩ := hv
    exact ⟨cur, hg, by omega, fun i hi => by omega⟩
theorem Fill.alloc {w X : World} {G n k : Nat} {p : Nat → Nat} (h : Fill w G n k p X) (o : Obj) : Fill w G n k p (X.alloc o) := by
  obtain ⟨cur, hg, hs, hc⟩ := h.row
  have hl : G < X.heap.size := by
    rcases Nat.lt_or_ge G X.heap.size with h1 | h1
    · exact h1
    · rw [Array.getElem?_eq_none h1] at hg; cases hg
  exact ⟨h.below.alloc h.below.size _, h.old, cur, (Below.heap_alloc _ _ _ hl).trans hg, hs, hc⟩
theorem rowAt_setCell {w : World} {a : Addr} {v : Value} {b : Nat} (h : b ≠ a.block) : rowAt (w.setCell a v) b = rowAt w b := rowAt_same (Below.heap_setCell _ _ _ _ h)
theorem byte0 : ByteF fun _ => 0 := fun _ _ => ⟨Int.le_refl _, show (0 : Int) ≤ 255 by decide⟩
def Dk.fresh (D : Dk) (b B : Nat) : Prop := ∀ x, D.mut b x ∨ D.fix x → B ≤ x
theorem new_none (n : Int) (w : World) (h : isSizeB n = false) : Calls Tryz.prog 16 #[.int .i64 n] w fun e w' => e = .returned (.tuple #[.pointer none, .int .i64 30]) ∧ Below w.heap.size w w' := by
  go_enter Tryz.func16, Tryz.ntmps16
  go_wp2_with (go_at_call 34; refine (isSize_any _ _).mono ?_; rintro e w1 ⟨rfl, hb⟩)
  go_ret2
  exact ⟨rfl, hb⟩
set_option maxHeartbeats 1000000 in
theorem new_some (n : Nat) (w : World) (n0 : 8 ≤ n) (n1 : n ≤ 1024) : Calls Tryz.prog 16 #[.int .i64 n] w fun e w' => ∃ b D, e = .returned (.tuple #[.pointer (some ⟨b, 0, none⟩), .int .i64 0]) ∧ Rep w' b D ∧ D.n = n ∧ D.m = 0 ∧ D.S = (fun _ _ => 0) ∧ D.F = (fun _ _ => 0) ∧ D.fresh b w.heap.size ∧ Below w.heap.size w w' := by
  have hz : isSizeB n = true := by simp [isSizeB]; omega
  obtain ⟨i0, hi, hz0, hz1, hz2⟩ := info_parts info58
  go_enter Tryz.func16, Tryz.ntmps16
  go_wp2_with (first
    | (go_at_call 34; refine (isSize_any _ _).mono ?_; rintro e w1 ⟨rfl, hb1⟩)
    | (at_make; refine wpList_make_full _ rfl _ _ 77 rfl w1.heap.size 78 i0 (.pointer none) 1 Tryz.underlying77 hi hz0 hz1 .i64 .i64 _ _ n rfl rfl (by omega) (by omega) (by rw [hz2]; omega) (by unfold maxLen; omega) (Nat.le_refl _) ?_; intro w2 hown2 hgrow2; have HF : Hid (Fill w1 w1.heap.size n 0 (fun _ => w2.heap.size) w2) := fill0 _ hown2 hgrow2; have hsz : w1.heap.size < w2.heap.size := (hown2.lt _ rfl).2; clear hown2 hgrow2))
  go_loopw [15] (fun i X => ∃ k : Nat, k ≤ n ∧ i = .int .i64 k ∧ Fill w1 w1.heap.size n k (fun _ => w2.heap.size) X ∧ rowAt X w2.heap.size = some (sec fun _ => 0)) (fun i _ => n - (intOf i).toNat)
  case atStart => exact ⟨0, by omega, rfl, HF.out.alloc _, rowAt_new _ _ _ _⟩
  case round =>
    obtain ⟨k, hk, rfl, hF, hR⟩ := hrel
    have HF' : Hid _ := hF
    have HR : Hid _ := hR
    by_cases hlt : k < n
    · obtain ⟨⟨v0, hv0⟩, hfz⟩ := hF.at hlt
      have i0 : (0 : Int) ≤ (k : Int) := by omega
      have i1 : (k : Int) < (n : Int) := by omega
      clear hF hR
      go_wp2
      go_roundw
      case rel => exact ⟨k + 1, by omega, by go_num, HF'.out.step hlt, (rowAt_setCell (by simp; omega)).trans HR.out⟩
      case measure => simp [intOf]; omega
    · obtain rfl : k = n := by omega
      clear hF hR
      go_wp2_with (go_at_call 35; refine (made_any w1.heap.size k k (fun _ => w2.heap.size) (fun _ _ => 0) _ n0 n1 (HF'.out.own n1) (fun i hi => ⟨HR.out, byte0⟩)).mono ?_; rintro e w3 ⟨b, h, c, rfl, hrep, hbb, hhh, hb3⟩)
      go_ret2
      have sz := HF'.out.below.size
      have sz1 := hb1.size
      refine ⟨b, _, rfl, hrep, rfl, rfl, rfl, rfl, ?_, (hb1.trans (HF'.out.below.mono sz1)).trans (hb3.mono (by omega))⟩
      rintro x ((rfl | rfl | hx) | (rfl | ⟨i, hi, rfl⟩ | ⟨i, hi, rfl⟩ | ⟨j, hj, _⟩))
      · omega
      · omega
      · simp [Dk.made, Value.ownBlock] at hx
      · show w.heap.size ≤ w1.heap.size; omega
      · show w.heap.size ≤ w2.heap.size; omega
      · show w.heap.size ≤ w2.heap.size; omega
      · simp [Dk.made] at hj
end Go.Proofs.YtmjflbleobmjdaaGreatDoor
