/-
  Every access of the document's bus.
-/
import Derived.Test.YtbkkjnafnckleaaRMove
import Derived.Test.YtbkkjnafnckleaaRWorn
namespace Go.Proofs.Ytbkkjnafnckleaa
open Go.ChangeShapes Go.WideShapes Go.ChangeAt Go.RowKit
attribute [local go_sem ↓] loadSec_seal storeSec_seal eqlSec_seal zeroSec
attribute [local go_sem] loadSec_run storeSec_run rowAt_at rowAt_old rowAt_drew rowAt_drewN roomSec_new roomAt_old roomAt_drew roomAt_drewN putSec_new putRow_past rowSec_put size_put putRow_drew putRow_drewN alloc_drewN setCell_drewN sec_size

set_option linter.unusedVariables false

theorem done_any (r : Nat) (P : RPh) (L : Lg) (c : Int) (w : World) (h : RBus w r P L) : Calls Try.prog 71 #[.pointer (some ⟨r, 0, none⟩), .int .u32 c] w fun e w' => e = .returned (.bool (L.moved c).1) ∧ ∃ P', RStp w r P w' P' (L.moved c).2 := by
  have a0 := h.ad.1
  have s0 := h.sc.1
  have low : (Calls Try.prog 71 #[.pointer (some ⟨r, 0, none⟩), .int .u32 c] w fun e w' => e = .returned (.bool false) ∧ Below w.heap.size w w') → (Calls Try.prog 71 #[.pointer (some ⟨r, 0, none⟩), .int .u32 c] w fun e w' => e = .returned (.bool false) ∧ ∃ P', RStp w r P w' P' L) := fun hh => hh.mono fun e w' ⟨he, hb⟩ => ⟨he, P, RStp.below h hb⟩
  by_cases hc : ¬ c = 1 ∧ ¬ c = 2
  · rw [moved_bad L c (.inl hc)]; exact low (done_other r P L c w h hc.1 hc.2)
  have hc : c = 1 ∨ c = 2 := by omega
  by_cases hs : (L.n : Int) ≤ L.sc
  · rw [moved_bad L c (.inr (.inl hs))]; exact low (done_sector r P L c w h hc hs)
  by_cases h4 : L.ad % 4 = 0
  case neg => rw [moved_bad L c (.inr (.inr (.inl h4)))]; exact low (done_place r P L c w h hc (by omega) (.inl h4))
  by_cases h5 : 1047552 < L.ad
  · rw [moved_bad L c (.inr (.inr (.inr h5)))]; exact low (done_place r P L c w h hc (by omega) (.inr ⟨h4, h5⟩))
  obtain ⟨o, ho⟩ := Int.eq_ofNat_of_zero_le a0
  obtain ⟨s, hse⟩ := Int.eq_ofNat_of_zero_le s0
  have eo : L.ad.toNat = o := by omega
  have es : L.sc.toNat = s := by omega
  have hp : ¬ placeB L = false := by unfold placeB; simp; omega
  unfold Lg.moved
  rw [if_neg hp]
  rcases hc with rfl | rfl
  · rw [if_pos rfl, if_pos (by omega), eo, es]
    exact (done_read r P L s o w h hse (by omega) ho (by omega) (by omega)).mono fun e w' ⟨he, hS⟩ => ⟨he, P, hS⟩
  · rw [if_neg (by decide), if_pos rfl]
    by_cases hm : L.m < 4096
    · rw [if_pos (by omega), eo, es]
      exact done_write r P L s o w h hse (by omega) hm ho (by omega) (by omega)
    · rw [if_neg (by omega)]
      exact low (done_worn r P L s o w h hse (by omega) (by omega) ho (by omega) (by omega))
theorem rstored_5 (r : Nat) (P : RPh) (L : Lg) (v : Int) (q : Bool) (L' : Lg) (w : World) (h : Calls Try.prog 71 #[.pointer (some ⟨r, 0, none⟩), .int .u32 v] w fun e w' => e = .returned (.bool q) ∧ ∃ P', RStp w r P w' P' L') : Calls Try.prog 53 #[.pointer (some ⟨r, 0, none⟩), .int .u32 4294967252, .int .u32 v] w fun e w' => e = .returned (.int .i64 0) ∧ ∃ P', RStp w r P w' P' { L' with cm := if q then 0 else 1 } := by
  have HC : Hid (Calls Try.prog 71 #[.pointer (some ⟨r, 0, none⟩), .int .u32 v] w fun e w' => e = .returned (.bool q) ∧ ∃ P', RStp w r P w' P' L') := h
  clear h
  cases q
  · go_enter Try.func53, Try.ntmps53
    go_wp2_with (go_at_call 71; refine HC.out.mono ?_; rintro e w1 ⟨rfl, P', hS⟩; have c8 := hS.bus.eight.c7; have f8 := hS.bus.free (j := 7) (by omega); have HS : Hid (RStp w r P w1 P' L') := hS; clear hS)
    go_ret
    exact ⟨rfl, P', HS.out.trans (RStp.put HS.out.bus (show RCore w1 r P' { L' with cm := 1 } from { HS.out.bus.toRCore with cm := u32K }) 7 _ rfl)⟩
  · go_enter Try.func53, Try.ntmps53
    go_wp2_with (go_at_call 71; refine HC.out.mono ?_; rintro e w1 ⟨rfl, P', hS⟩; have c8 := hS.bus.eight.c7; have f8 := hS.bus.free (j := 7) (by omega); have HS : Hid (RStp w r P w1 P' L') := hS; clear hS)
    go_ret
    have h1 := RStp.put HS.out.bus (show RCore w1 r P' { L' with cm := 1 } from { HS.out.bus.toRCore with cm := u32K }) 7 (.int .u32 1) rfl
    have h2 := RStp.put h1.bus (show RCore _ r P' { L' with cm := 0 } from { h1.bus.toRCore with cm := u32J }) 7 (.int .u32 0) rfl
    exact ⟨rfl, P', (HS.out.trans h1).trans h2⟩
theorem rstored_3 (r : Nat) (P : RPh) (L : Lg) (v : Int) (w : World) (h : RBus w r P L) (v0 : 0 ≤ v) (v1 : v ≤ 4294967295) : Calls Try.prog 53 #[.pointer (some ⟨r, 0, none⟩), .int .u32 4294967244, .int .u32 v] w fun e w' => e = .returned (.int .i64 0) ∧ RStp w r P w' P { L with sc := v } := by
  have c5 := h.eight.c5
  have f0 := h.free (j := 5) (by omega)
  have H : Hid (RBus w r P L) := h
  clear h
  go_enter Try.func53, Try.ntmps53
  go_wp2
  go_ret
  exact ⟨rfl, RStp.put H.out (show RCore w r P { L with sc := v } from { H.out.toRCore with sc := ⟨v0, v1⟩ }) 5 _ rfl⟩
theorem rstored_4 (r : Nat) (P : RPh) (L : Lg) (v : Int) (w : World) (h : RBus w r P L) (v0 : 0 ≤ v) (v1 : v ≤ 4294967295) : Calls Try.prog 53 #[.pointer (some ⟨r, 0, none⟩), .int .u32 4294967248, .int .u32 v] w fun e w' => e = .returned (.int .i64 0) ∧ RStp w r P w' P { L with ad := v } := by
  have c5 := h.eight.c6
  have f0 := h.free (j := 6) (by omega)
  have H : Hid (RBus w r P L) := h
  clear h
  go_enter Try.func53, Try.ntmps53
  go_wp2
  go_ret
  exact ⟨rfl, RStp.put H.out (show RCore w r P { L with ad := v } from { H.out.toRCore with ad := ⟨v0, v1⟩ }) 6 _ rfl⟩
theorem rstored_full (r : Nat) (P : RPh) (L : Lg) (v : Int) (w : World) (h : RBus w r P L) (hf : 65536 ≤ L.O.length) : Calls Try.prog 53 #[.pointer (some ⟨r, 0, none⟩), .int .u32 4294967236, .int .u32 v] w fun e w' => e = .returned (.int .i64 0) ∧ w' = w := by
  have c4 := h.eight.c3
  have h1 : ¬ ((L.O.length : Int) < 65536) := by omega
  clear h
  go_enter Try.func53, Try.ntmps53
  go_wp2
  go_ret
  exact ⟨rfl, rfl⟩
theorem rstored_ok (r : Nat) (P : RPh) (L : Lg) (v : Int) (w : World) (h : RBus w r P L) (hf : L.O.length < 65536) : Calls Try.prog 53 #[.pointer (some ⟨r, 0, none⟩), .int .u32 4294967236, .int .u32 v] w fun e w' => e = .returned (.int .i64 0) ∧ ∃ P', RStp w r P w' P' { L with O := L.O ++ [v % 256] } := by
  have hb0 : Below w.heap.size w (w.alloc (.cells #[.int .u8 (v % 256)] 5)) := (Below.refl _ w).alloc (Nat.le_refl _) _
  have h' := h.below hb0
  obtain ⟨a', c', w1, hr, hS, ht, ha, hlt⟩ := srow_append h'.out 35 35 _ [v % 256] (src_byte w (v % 256) 5 _ rfl) (by intro y hy; simp at hy; subst hy; omega) (by simp; omega)
  have h1 : (L.O.length : Int) < 65536 := by omega
  have c4 := h.eight.c3
  obtain ⟨t, hg⟩ := h'.tag
  have hbb : w1.heap[r]? = (w.alloc (.cells #[.int .u8 (v % 256)] 5)).heap[r]? := ht.block r h'.blt hg.ne.2.1
  have c4' : w1.cell? ⟨r, 3, none⟩ = some (.slice P.pa L.O.length P.pc) := (World.cell?_of_block hbb).trans h'.eight.c3
  have f4 : w1.frozen? ⟨r, 3, none⟩ = false := (World.frozen?_of_block hbb).trans (h'.free (j := 3) (by omega))
  have HE : Hid (RStp w r P (w1.setCell ⟨r, 3, none⟩ (.slice a' (L.O.length + 1) c')) { P with pa := a', pc := c' } { L with O := L.O ++ [v % 256] }) := by
    have e := rout_end h' ht hS (by simp; omega) ha hlt
    rw [List.length_append] at e
    exact (RStp.below h hb0).trans e
  have HR : Hid _ := hr
  clear h h' hS ht ha hlt hg hbb hr hb0
  go_enter Try.func53, Try.ntmps53
  go_wp2_with (at_builtin; refine wpList_append_eq rfl _ _ _ _ rfl _ _ _ _ rfl rfl HR.out ?_)
  go_ret
  exact ⟨rfl, _, HE.out⟩
theorem rstored_7 (r : Nat) (a v : Int) (w : World) (hk : ¬ a = 4294967236 ∧ ¬ a = 4294967244 ∧ ¬ a = 4294967248 ∧ ¬ a = 4294967252) : Calls Try.prog 53 #[.pointer (some ⟨r, 0, none⟩), .int .u32 a, .int .u32 v] w fun e w' => e = .returned (.int .i64 1) ∧ w' = w := by
  obtain ⟨d1, d3, d4, d5⟩ := hk
  go_enter Try.func53, Try.ntmps53
  go_wp2
  go_ret
  exact ⟨rfl, rfl⟩
theorem rstored_any (r : Nat) (P : RPh) (L : Lg) (a v : Int) (w : World) (h : RBus w r P L) (v0 : 0 ≤ v) (v1 : v ≤ 4294967295) : Calls Try.prog 53 #[.pointer (some ⟨r, 0, none⟩), .int .u32 a, .int .u32 v] w fun e w' => e = .returned (.int .i64 (L.into v (devN a)).1) ∧ ∃ P', RStp w r P w' P' (L.into v (devN a)).2 := by
  have h7 := devN_le a
  have hc := dev_const a
  have bad : (¬ a = 4294967236 ∧ ¬ a = 4294967244 ∧ ¬ a = 4294967248 ∧ ¬ a = 4294967252) → (Calls Try.prog 53 #[.pointer (some ⟨r, 0, none⟩), .int .u32 a, .int .u32 v] w fun e w' => e = .returned (.int .i64 1) ∧ ∃ P', RStp w r P w' P' L) := fun hh => (rstored_7 r a v w hh).mono fun e w' ⟨he, hw⟩ => ⟨he, P, by rw [hw]; exact RStp.refl h⟩
  have hk : devN a = 0 ∨ devN a = 1 ∨ devN a = 2 ∨ devN a = 3 ∨ devN a = 4 ∨ devN a = 5 ∨ devN a = 6 ∨ devN a = 7 := by omega
  rcases hk with hk | hk | hk | hk | hk | hk | hk | hk
  · have e := hc.1 hk; rw [hk]; exact bad (by omega)
  · have e := hc.2.1 hk; rw [hk]; subst e
    unfold Lg.into
    by_cases hO : L.O.length < 65536
    · rw [if_pos hO]; exact rstored_ok r P L v w h hO
    · rw [if_neg hO]; exact (rstored_full r P L v w h (by omega)).mono fun e w' ⟨he, hw⟩ => ⟨he, P, by rw [hw]; exact RStp.refl h⟩
  · have e := hc.2.2.1 hk; rw [hk]; exact bad (by omega)
  · have e := hc.2.2.2.1 hk; rw [hk]; subst e; exact (rstored_3 r P L v w h v0 v1).mono fun e w' ⟨he, hS⟩ => ⟨he, P, hS⟩
  · have e := hc.2.2.2.2.1 hk; rw [hk]; subst e; exact (rstored_4 r P L v w h v0 v1).mono fun e w' ⟨he, hS⟩ => ⟨he, P, hS⟩
  · have e := hc.2.2.2.2.2.1 hk; rw [hk]; subst e; exact rstored_5 r P L v _ _ w (done_any r P L v w h)
  · have e := hc.2.2.2.2.2.2 hk; rw [hk]; exact bad (by omega)
  · rw [hk]
    refine bad ⟨fun e => ?_, fun e => ?_, fun e => ?_, fun e => ?_⟩ <;> (rw [e] at hk; exact absurd hk (by decide))
end Go.Proofs.Ytbkkjnafnckleaa
