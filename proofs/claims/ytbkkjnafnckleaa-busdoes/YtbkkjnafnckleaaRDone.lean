/-
  A command of the document's bus.
-/
import Derived.Test.YtbkkjnafnckleaaRLoad
import Derived.Test.YtbkkjnafnckleaaRLay
import Derived.Deep.RegionWith
namespace Go.Proofs.Ytbkkjnafnckleaa
open Go.ChangeShapes Go.WideShapes Go.ChangeAt Go.RowKit
attribute [local go_sem ↓] loadSec_seal storeSec_seal eqlSec_seal zeroSec
attribute [local go_sem] loadSec_run storeSec_run rowAt_at rowAt_old rowAt_drew rowAt_drewN roomSec_new roomAt_old roomAt_drew roomAt_drewN putSec_new putRow_past rowSec_put size_put putRow_drew putRow_drewN alloc_drewN setCell_drewN sec_size

set_option linter.unusedVariables false

theorem rep_drew {w : World} {r : Nat} {R : Rk} (h : RepR w r R) (n : Nat) : RepR (w.drewN n) r R := h.below (drewNB w n)
theorem moved_bad (L : Lg) (c : Int) (h : (¬ c = 1 ∧ ¬ c = 2) ∨ (L.n : Int) ≤ L.sc ∨ ¬ L.ad % 4 = 0 ∨ 1047552 < L.ad) : L.moved c = (false, L) := by
  unfold Lg.moved
  by_cases hp : placeB L = false
  · rw [if_pos hp]
  · rw [if_neg hp]
    have hp' : L.ad % 4 = 0 ∧ L.ad ≤ 1047552 := by simpa [placeB] using hp
    by_cases c1 : c = 1
    · rw [if_pos c1, if_neg (by omega)]
    · rw [if_neg c1]
      by_cases c2 : c = 2
      · rw [if_pos c2, if_neg (by omega)]
      · rw [if_neg c2]
set_option maxHeartbeats 1000000 in
theorem done_other (r : Nat) (P : RPh) (L : Lg) (c : Int) (w : World) (h : RBus w r P L) (h1 : ¬ c = 1) (h2 : ¬ c = 2) : Calls Try.prog 71 #[.pointer (some ⟨r, 0, none⟩), .int .u32 c] w fun e w' => e = .returned (.bool false) ∧ Below w.heap.size w w' := by
  have q1 : (c != 1) = true := by simpa using h1
  have q2 : (c != 2) = true := by simpa using h2
  clear h
  go_enter Try.func71, Try.ntmps71
  go_wp2
  go_quiet (fail)
  go_wp2
  go_ret
  exact ⟨rfl, drewNB _ _⟩
set_option maxHeartbeats 1000000 in
theorem done_sector (r : Nat) (P : RPh) (L : Lg) (c : Int) (w : World) (h : RBus w r P L) (hc : c = 1 ∨ c = 2) (hs : (L.n : Int) ≤ L.sc) : Calls Try.prog 71 #[.pointer (some ⟨r, 0, none⟩), .int .u32 c] w fun e w' => e = .returned (.bool false) ∧ Below w.heap.size w w' := by
  have c1 := h.eight.c1
  have c5 := h.eight.c5
  have H : Hid (RBus w r P L) := h
  have n1 := h.dsk.n1
  rw [← h.dn] at hs
  clear h
  rcases hc with rfl | rfl
  all_goals
    go_enter Try.func71, Try.ntmps71
    go_wp2
    go_quiet ((go_at_call 11; exact Calls.quiet_of_same (rsecs_any P.rd P.R _ (rep_drew H.out.dsk _))))
    go_wp2
    go_ret
    exact ⟨rfl, drewNB _ _⟩
set_option maxHeartbeats 1000000 in
theorem done_place (r : Nat) (P : RPh) (L : Lg) (c : Int) (w : World) (h : RBus w r P L) (hc : c = 1 ∨ c = 2) (hs : L.sc < (L.n : Int)) (hp : ¬ L.ad % 4 = 0 ∨ (L.ad % 4 = 0 ∧ 1047552 < L.ad)) : Calls Try.prog 71 #[.pointer (some ⟨r, 0, none⟩), .int .u32 c] w fun e w' => e = .returned (.bool false) ∧ Below w.heap.size w w' := by
  have c1 := h.eight.c1
  have c5 := h.eight.c5
  have c6 := h.eight.c6
  have a0 := h.ad.1
  have H : Hid (RBus w r P L) := h
  have n1 := h.dsk.n1
  rw [← h.dn] at hs
  have hs2 : decide ((P.R.n : Int) ≤ L.sc) = false := by simp; omega
  clear h
  rcases hp with hp | ⟨hp, hq⟩
  · have hp2 : (L.ad % 4 != 0) = true := by simpa using hp
    rcases hc with rfl | rfl
    all_goals
      go_enter Try.func71, Try.ntmps71
      go_wp2
      go_quiet ((go_at_call 11; exact Calls.quiet_of_same (rsecs_any P.rd P.R _ (rep_drew H.out.dsk _))))
      go_wp2
      go_ret
      exact ⟨rfl, drewNB _ _⟩
  · rcases hc with rfl | rfl
    all_goals
      go_enter Try.func71, Try.ntmps71
      go_wp2
      go_quiet ((go_at_call 11; exact Calls.quiet_of_same (rsecs_any P.rd P.R _ (rep_drew H.out.dsk _))))
      go_wp2
      go_ret
      exact ⟨rfl, drewNB _ _⟩
end Go.Proofs.Ytbkkjnafnckleaa
