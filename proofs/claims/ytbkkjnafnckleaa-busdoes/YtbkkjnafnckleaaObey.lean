/-
  A command is done, or not.
-/
import Derived.Test.YtbkkjnafnckleaaCmd
namespace Go.Proofs.Ytbkkjnafnckleaa
open Go.ChangeShapes Go.WideShapes Go.ChangeAt Go.RowKit
attribute [local go_sem ↓] loadSec_seal storeSec_seal eqlSec_seal zeroSec
attribute [local go_sem] loadSec_run storeSec_run rowAt_at rowAt_old rowAt_drew rowAt_drewN roomSec_new roomAt_old roomAt_drew roomAt_drewN putSec_new putRow_past rowSec_put size_put putRow_drew putRow_drewN alloc_drewN setCell_drewN sec_size

set_option linter.unusedVariables false

/-- May the address be a command's? -/
def placeB (L : Lg) : Bool := decide (L.ad % 4 = 0 ∧ L.ad ≤ 1047552)
/-- What a command does: was it done, and what is held behind it. -/
def Lg.moved (L : Lg) (c : Int) : Bool × Lg :=
  if placeB L = false then (false, L)
  else if c = 1 then (if L.sc < L.n then (true, { L with M := layM L.M L.ad.toNat (L.S L.sc.toNat) }) else (false, L))
  else if c = 2 then (if L.sc < L.n ∧ L.m < 4096 then (true, { L with S := upd L.S L.sc.toNat (memF L.M L.ad.toNat), m := L.m + 1 }) else (false, L))
  else (false, L)
theorem moves_place (b : Nat) (P : Ph) (L : Lg) (c : Int) (w : World) (h : Bus w b P L) (hp : placeB L = false) : Calls Try.prog 72 #[.pointer (some ⟨b, 0, none⟩), .int .u32 c] w fun e w' => e = .returned (.bool false) ∧ w' = w := by
  have c7 := h.nine.c7
  have a0 := h.ad.1
  have a1 := h.ad.2
  unfold placeB at hp
  simp only [decide_eq_false_iff_not] at hp
  clear h
  by_cases h4 : L.ad % 4 = 0
  · have h5 : 1047552 < L.ad := by omega
    clear hp
    go_enter Try.func72, Try.ntmps72
    go_wp2
    go_ret
    exact ⟨rfl, rfl⟩
  · clear hp
    go_enter Try.func72, Try.ntmps72
    go_wp2
    go_ret
    exact ⟨rfl, rfl⟩
theorem drewNB (w : World) (n : Nat) : Below w.heap.size w (w.drewN n) := bdrewN (Below.refl _ w) n
theorem moves_read_bad (b : Nat) (P : Ph) (L : Lg) (o : Nat) (w : World) (h : Bus w b P L) (ho : L.ad = o) (h4 : (o : Int) % 4 = 0) (h5 : (o : Int) ≤ 1047552) (hs : (L.n : Int) ≤ L.sc) : Calls Try.prog 72 #[.pointer (some ⟨b, 0, none⟩), .int .u32 1] w fun e w' => e = .returned (.bool false) ∧ Stp w b P w' P L := by
  have c7 := h.nine.c7
  have cc := h.nine.c0
  have H : Hid (Bus w b P L) := h
  rw [ho] at c7
  clear h ho
  have h6 : ¬ (1047552 : Int) < (o : Int) := by omega
  have h7 : (0 : Int) ≤ (o : Int) := by omega
  have h8 : (o : Int) ≤ 1048576 := by omega
  have h9 : 1024 ≤ 1048576 - o := by omega
  have h10 : o + 1024 ≤ 1048576 := by omega
  go_enter Try.func72, Try.ntmps72
  go_wp2
  go_quiet (fail)
  go_wp2_with (go_at_call 74; refine (readInto_bad b P L _ _ (H.out.below (drewNB w _)) hs).mono ?_; rintro e w1 ⟨rfl, hS⟩)
  go_ret
  exact ⟨rfl, (Stp.below H.out (drewNB w _)).trans hS⟩
theorem moves_read_ok (b : Nat) (P : Ph) (L : Lg) (s : Nat) (o : Nat) (w : World) (h : Bus w b P L) (ho : L.ad = o) (h4 : (o : Int) % 4 = 0) (h5 : (o : Int) ≤ 1047552) (hs : L.sc = s) (hn : s < L.n) : Calls Try.prog 72 #[.pointer (some ⟨b, 0, none⟩), .int .u32 1] w fun e w' => e = .returned (.bool true) ∧ Stp w b P w' P { L with M := layM L.M o (L.S s) } := by
  have c7 := h.nine.c7
  have cc := h.nine.c0
  have H : Hid (Bus w b P L) := h
  rw [ho] at c7
  clear h ho
  have h6 : ¬ (1047552 : Int) < (o : Int) := by omega
  have h7 : (0 : Int) ≤ (o : Int) := by omega
  have h8 : (o : Int) ≤ 1048576 := by omega
  have h9 : 1024 ≤ 1048576 - o := by omega
  have h10 : o + 1024 ≤ 1048576 := by omega
  go_enter Try.func72, Try.ntmps72
  go_wp2
  go_quiet (fail)
  go_wp2_with (go_at_call 74; refine (readInto_ok b P L s o _ _ (H.out.below (drewNB w _)) hs hn h10).mono ?_; rintro e w1 ⟨rfl, hS⟩)
  go_ret
  exact ⟨rfl, (Stp.below H.out (drewNB w _)).trans hS⟩
theorem moves_write_bad (b : Nat) (P : Ph) (L : Lg) (o : Nat) (w : World) (h : Bus w b P L) (ho : L.ad = o) (h4 : (o : Int) % 4 = 0) (h5 : (o : Int) ≤ 1047552) (hs : (L.n : Int) ≤ L.sc ∨ 4096 ≤ L.m) : Calls Try.prog 72 #[.pointer (some ⟨b, 0, none⟩), .int .u32 2] w fun e w' => e = .returned (.bool false) ∧ Stp w b P w' P L := by
  have c7 := h.nine.c7
  have cc := h.nine.c0
  have H : Hid (Bus w b P L) := h
  rw [ho] at c7
  clear h ho
  have h6 : ¬ (1047552 : Int) < (o : Int) := by omega
  have h7 : (0 : Int) ≤ (o : Int) := by omega
  have h8 : (o : Int) ≤ 1048576 := by omega
  have h9 : 1024 ≤ 1048576 - o := by omega
  have h10 : o + 1024 ≤ 1048576 := by omega
  go_enter Try.func72, Try.ntmps72
  go_wp2
  go_quiet (fail)
  go_wp2_with (go_at_call 75; refine (writeFrom_bad b P L o _ _ (H.out.below (drewNB w _)) h10 hs).mono ?_; rintro e w1 ⟨rfl, hS⟩)
  go_ret
  exact ⟨rfl, (Stp.below H.out (drewNB w _)).trans hS⟩
theorem moves_write_ok (b : Nat) (P : Ph) (L : Lg) (s : Nat) (o : Nat) (w : World) (h : Bus w b P L) (ho : L.ad = o) (h4 : (o : Int) % 4 = 0) (h5 : (o : Int) ≤ 1047552) (hs : L.sc = s) (hn : s < L.n) (hm : L.m < 4096) : Calls Try.prog 72 #[.pointer (some ⟨b, 0, none⟩), .int .u32 2] w fun e w' => e = .returned (.bool true) ∧ ∃ P', Stp w b P w' P' { L with S := upd L.S s (memF L.M o), m := L.m + 1 } := by
  have c7 := h.nine.c7
  have cc := h.nine.c0
  have H : Hid (Bus w b P L) := h
  rw [ho] at c7
  clear h ho
  have h6 : ¬ (1047552 : Int) < (o : Int) := by omega
  have h7 : (0 : Int) ≤ (o : Int) := by omega
  have h8 : (o : Int) ≤ 1048576 := by omega
  have h9 : 1024 ≤ 1048576 - o := by omega
  have h10 : o + 1024 ≤ 1048576 := by omega
  go_enter Try.func72, Try.ntmps72
  go_wp2
  go_quiet (fail)
  go_wp2_with (go_at_call 75; refine (writeFrom_ok b P L s o _ _ (H.out.below (drewNB w _)) h10 hs hn hm).mono ?_; rintro e w1 ⟨rfl, P', hS⟩)
  go_ret
  exact ⟨rfl, P', (Stp.below H.out (drewNB w _)).trans hS⟩
theorem moves_other (b : Nat) (P : Ph) (L : Lg) (c : Int) (o : Nat) (w : World) (h : Bus w b P L) (ho : L.ad = o) (h4 : (o : Int) % 4 = 0) (h5 : (o : Int) ≤ 1047552) (hc1 : ¬ c = 1) (hc2 : ¬ c = 2) : Calls Try.prog 72 #[.pointer (some ⟨b, 0, none⟩), .int .u32 c] w fun e w' => e = .returned (.bool false) ∧ Stp w b P w' P L := by
  have c7 := h.nine.c7
  have cc := h.nine.c0
  have H : Hid (Bus w b P L) := h
  rw [ho] at c7
  clear h ho
  have h6 : ¬ (1047552 : Int) < (o : Int) := by omega
  have h7 : (0 : Int) ≤ (o : Int) := by omega
  have h8 : (o : Int) ≤ 1048576 := by omega
  have h9 : 1024 ≤ 1048576 - o := by omega
  have h10 : o + 1024 ≤ 1048576 := by omega
  go_enter Try.func72, Try.ntmps72
  go_wp2
  go_quiet (fail)
  go_wp2
  go_ret
  exact ⟨rfl, Stp.below H.out (drewNB w _)⟩
theorem moves_any (b : Nat) (P : Ph) (L : Lg) (c : Int) (w : World) (h : Bus w b P L) : Calls Try.prog 72 #[.pointer (some ⟨b, 0, none⟩), .int .u32 c] w fun e w' => e = .returned (.bool (L.moved c).1) ∧ ∃ P', Stp w b P w' P' (L.moved c).2 := by
  have a0 := h.ad.1
  have s0 := h.sc.1
  unfold Lg.moved
  by_cases hp : placeB L = false
  · rw [if_pos hp]
    exact (moves_place b P L c w h hp).mono fun e w' ⟨he, hw⟩ => ⟨he, P, by rw [hw]; exact Stp.refl h⟩
  · rw [if_neg hp]
    obtain ⟨h4, h5⟩ : L.ad % 4 = 0 ∧ L.ad ≤ 1047552 := by simpa [placeB] using hp
    obtain ⟨o, ho⟩ := Int.eq_ofNat_of_zero_le a0
    obtain ⟨s, hs⟩ := Int.eq_ofNat_of_zero_le s0
    have eo : L.ad.toNat = o := by omega
    have es : L.sc.toNat = s := by omega
    rw [ho] at h4 h5
    by_cases c1 : c = 1
    · rw [if_pos c1]
      subst c1
      by_cases hn : L.sc < L.n
      · rw [if_pos hn, eo, es]
        exact (moves_read_ok b P L s o w h ho h4 h5 hs (by omega)).mono fun e w' ⟨he, hw⟩ => ⟨he, P, hw⟩
      · rw [if_neg hn]
        exact (moves_read_bad b P L o w h ho h4 h5 (by omega)).mono fun e w' ⟨he, hw⟩ => ⟨he, P, hw⟩
    · rw [if_neg c1]
      by_cases c2 : c = 2
      · rw [if_pos c2]
        subst c2
        by_cases hn : L.sc < L.n ∧ L.m < 4096
        · rw [if_pos hn, eo, es]
          exact moves_write_ok b P L s o w h ho h4 h5 hs (by omega) hn.2
        · rw [if_neg hn]
          exact (moves_write_bad b P L o w h ho h4 h5 (by omega)).mono fun e w' ⟨he, hw⟩ => ⟨he, P, hw⟩
      · rw [if_neg c2]
        exact (moves_other b P L c o w h ho h4 h5 c1 c2).mono fun e w' ⟨he, hw⟩ => ⟨he, P, hw⟩
def Lg.obeyed (L : Lg) (c : Int) : Lg := { (L.moved c).2 with cm := if (L.moved c).1 then 0 else 1 }
theorem u32K : U32 1 := ⟨by decide, by decide⟩
theorem u32J : U32 0 := ⟨by decide, by decide⟩
theorem obey_of (b : Nat) (P : Ph) (L' : Lg) (c : Int) (r : Bool) (w : World) (h : Calls Try.prog 72 #[.pointer (some ⟨b, 0, none⟩), .int .u32 c] w fun e w' => e = .returned (.bool r) ∧ ∃ P', Stp w b P w' P' L') : Calls Try.prog 65 #[.pointer (some ⟨b, 0, none⟩), .int .u32 c] w fun e w' => e = .returned (.tuple #[]) ∧ ∃ P', Stp w b P w' P' { L' with cm := if r then 0 else 1 } := by
  have HC : Hid (Calls Try.prog 72 #[.pointer (some ⟨b, 0, none⟩), .int .u32 c] w fun e w' => e = .returned (.bool r) ∧ ∃ P', Stp w b P w' P' L') := h
  clear h
  cases r
  · go_enter Try.func65, Try.ntmps65
    go_wp2_with (go_at_call 72; refine HC.out.mono ?_; rintro e w1 ⟨rfl, P', hS⟩; have c8 := hS.bus.nine.c8; have f8 := hS.bus.free (j := 8) (by omega); have HS : Hid (Stp w b P w1 P' L') := hS; clear hS)
    go_end0
    exact ⟨rfl, P', HS.out.trans (Stp.put HS.out.bus (show Core w1 b P' { L' with cm := 1 } from { HS.out.bus.toCore with cm := u32K }) 8 _ rfl)⟩
  · go_enter Try.func65, Try.ntmps65
    go_wp2_with (go_at_call 72; refine HC.out.mono ?_; rintro e w1 ⟨rfl, P', hS⟩; have c8 := hS.bus.nine.c8; have f8 := hS.bus.free (j := 8) (by omega); have HS : Hid (Stp w b P w1 P' L') := hS; clear hS)
    go_end0
    exact ⟨rfl, P', HS.out.trans (Stp.put HS.out.bus (show Core w1 b P' { L' with cm := 0 } from { HS.out.bus.toCore with cm := u32J }) 8 _ rfl)⟩
theorem obey_any (b : Nat) (P : Ph) (L : Lg) (c : Int) (w : World) (h : Bus w b P L) : Calls Try.prog 65 #[.pointer (some ⟨b, 0, none⟩), .int .u32 c] w fun e w' => e = .returned (.tuple #[]) ∧ ∃ P', Stp w b P w' P' (L.obeyed c) := obey_of b P _ c _ w (moves_any b P L c w h)
end Go.Proofs.Ytbkkjnafnckleaa
