/-
  Every access of the document's bus.
  Every access of the document's bus, at its door.
  Both buses, side by side.
  The document's bus, made new.
-/
import Derived.Test.YteegkhnikcioiaaGreatDoorMRWorn
import Derived.Laws.IdiomCopy
namespace Go.Proofs.YteegkhnikcioiaaGreatDoor
open Go.ChangeShapes Go.WideShapes Go.ChangeAt Go.RowKit
attribute [local go_sem ↓] loadSec_seal storeSec_seal eqlSec_seal zeroSec
attribute [local go_sem] loadSec_run storeSec_run rowAt_at rowAt_old rowAt_drew rowAt_drewN roomSec_new roomAt_old roomAt_drew roomAt_drewN putSec_new putRow_past rowSec_put size_put putRow_drew putRow_drewN alloc_drewN setCell_drewN sec_size

set_option linter.unusedVariables false

theorem done_any (r : Nat) (P : RPh) (L : Lg) (c : Int) (w : World) (h : RBus w r P L) : Calls Tryz.prog 114 #[.pointer (some ⟨r, 0, none⟩), .int .u32 c] w fun e w' => e = .returned (.bool (L.moved c).1) ∧ ∃ P', RStp w r P w' P' (L.moved c).2 := by
  have a0 := h.ad.1
  have s0 := h.sc.1
  have low : (Calls Tryz.prog 114 #[.pointer (some ⟨r, 0, none⟩), .int .u32 c] w fun e w' => e = .returned (.bool false) ∧ Below w.heap.size w w') → (Calls Tryz.prog 114 #[.pointer (some ⟨r, 0, none⟩), .int .u32 c] w fun e w' => e = .returned (.bool false) ∧ ∃ P', RStp w r P w' P' L) := fun hh => hh.mono fun e w' ⟨he, hb⟩ => ⟨he, P, RStp.below h hb⟩
  by_cases hc : ¬ c = 1 ∧ ¬ c = 2
  · rw [moved_bad L c (.inl hc)]; exact low (done_other r P L c w h hc.1 hc.2)
  have hc : c = 1 ∨ c = 2 := by omega
  by_cases hs : (L.n : Int) ≤ L.sc
  · rw [moved_bad L c (.inr (.inl hs))]; exact low (done_sector r P L c w h hc hs)
  by_cases h4 : L.ad % 4 = 0
  case neg => rw [moved_bad L c (.inr (.inr (.inl h4)))]; exact low (done_place r P L c w h hc (by omega) (.inl h4))
  by_cases h5 : 1047552 < L.ad
  · rw [moved_bad L c (.inr (.inr (.inr h5)))]; exact low (done_place r P L c w h hc (by omega) (.inr ⟨h4, h5⟩))
  obtain ⟨o, ho⟩ := Int.eq_ofNat_of_zero_le a0
  obtain ⟨s, hse⟩ := Int.eq_ofNat_of_zero_le s0
  have eo : L.ad.toNat = o := by omega
  have es : L.sc.toNat = s := by omega
  have hp : ¬ placeB L = false := by unfold placeB; simp; omega
  unfold Lg.moved
  rw [if_neg hp]
  rcases hc with rfl | rfl
  · rw [if_pos rfl, if_pos (by omega), eo, es]
    exact (done_read r P L s o w h hse (by omega) ho (by omega) (by omega)).mono fun e w' ⟨he, hS⟩ => ⟨he, P, hS⟩
  · rw [if_neg (by decide), if_pos rfl]
    by_cases hm : L.m < 4096
    · rw [if_pos (by omega), eo, es]
      exact done_write r P L s o w h hse (by omega) hm ho (by omega) (by omega)
    · rw [if_neg (by omega)]
      exact low (done_worn r P L s o w h hse (by omega) (by omega) ho (by omega) (by omega))
theorem rstored_5 (r : Nat) (P : RPh) (L : Lg) (v : Int) (q : Bool) (L' : Lg) (w : World) (h : Calls Tryz.prog 114 #[.pointer (some ⟨r, 0, none⟩), .int .u32 v] w fun e w' => e = .returned (.bool q) ∧ ∃ P', RStp w r P w' P' L') : Calls Tryz.prog 91 #[.pointer (some ⟨r, 0, none⟩), .int .u32 4294967252, .int .u32 v] w fun e w' => e = .returned (.int .i64 0) ∧ ∃ P', RStp w r P w' P' { L' with cm := if q then 0 else 1 } := by
  have HC : Hid (Calls Tryz.prog 114 #[.pointer (some ⟨r, 0, none⟩), .int .u32 v] w fun e w' => e = .returned (.bool q) ∧ ∃ P', RStp w r P w' P' L') := h
  clear h
  cases q
  · go_enter Tryz.func91, Tryz.ntmps91
    go_wp2_with (go_at_call 114; refine HC.out.mono ?_; rintro e w1 ⟨rfl, P', hS⟩; have c8 := hS.bus.eight.c7; have f8 := hS.bus.free (j := 7) (by omega); have HS : Hid (RStp w r P w1 P' L') := hS; clear hS)
    go_ret
    exact ⟨rfl, P', HS.out.trans (RStp.put HS.out.bus (show RCore w1 r P' { L' with cm := 1 } from { HS.out.bus.toRCore with cm := u32K }) 7 _ rfl)⟩
  · go_enter Tryz.func91, Tryz.ntmps91
    go_wp2_with (go_at_call 114; refine HC.out.mono ?_; rintro e w1 ⟨rfl, P', hS⟩; have c8 := hS.bus.eight.c7; have f8 := hS.bus.free (j := 7) (by omega); have HS : Hid (RStp w r P w1 P' L') := hS; clear hS)
    go_ret
    have h1 := RStp.put HS.out.bus (show RCore w1 r P' { L' with cm := 1 } from { HS.out.bus.toRCore with cm := u32K }) 7 (.int .u32 1) rfl
    have h2 := RStp.put h1.bus (show RCore _ r P' { L' with cm := 0 } from { h1.bus.toRCore with cm := u32J }) 7 (.int .u32 0) rfl
    exact ⟨rfl, P', (HS.out.trans h1).trans h2⟩
theorem rstored_3 (r : Nat) (P : RPh) (L : Lg) (v : Int) (w : World) (h : RBus w r P L) (v0 : 0 ≤ v) (v1 : v ≤ 4294967295) : Calls Tryz.prog 91 #[.pointer (some ⟨r, 0, none⟩), .int .u32 4294967244, .int .u32 v] w fun e w' => e = .returned (.int .i64 0) ∧ RStp w r P w' P { L with sc := v } := by
  have c5 := h.eight.c5
  have f0 := h.free (j := 5) (by omega)
  have H : Hid (RBus w r P L) := h
  clear h
  go_enter Tryz.func91, Tryz.ntmps91
  go_wp2
  go_ret
  exact ⟨rfl, RStp.put H.out (show RCore w r P { L with sc := v } from { H.out.toRCore with sc := ⟨v0, v1⟩ }) 5 _ rfl⟩
theorem rstored_4 (r : Nat) (P : RPh) (L : Lg) (v : Int) (w : World) (h : RBus w r P L) (v0 : 0 ≤ v) (v1 : v ≤ 4294967295) : Calls Tryz.prog 91 #[.pointer (some ⟨r, 0, none⟩), .int .u32 4294967248, .int .u32 v] w fun e w' => e = .returned (.int .i64 0) ∧ RStp w r P w' P { L with ad := v } := by
  have c5 := h.eight.c6
  have f0 := h.free (j := 6) (by omega)
  have H : Hid (RBus w r P L) := h
  clear h
  go_enter Tryz.func91, Tryz.ntmps91
  go_wp2
  go_ret
  exact ⟨rfl, RStp.put H.out (show RCore w r P { L with ad := v } from { H.out.toRCore with ad := ⟨v0, v1⟩ }) 6 _ rfl⟩
theorem rstored_full (r : Nat) (P : RPh) (L : Lg) (v : Int) (w : World) (h : RBus w r P L) (hf : 65536 ≤ L.O.length) : Calls Tryz.prog 91 #[.pointer (some ⟨r, 0, none⟩), .int .u32 4294967236, .int .u32 v] w fun e w' => e = .returned (.int .i64 0) ∧ w' = w := by
  have c4 := h.eight.c3
  have h1 : ¬ ((L.O.length : Int) < 65536) := by omega
  clear h
  go_enter Tryz.func91, Tryz.ntmps91
  go_wp2
  go_ret
  exact ⟨rfl, rfl⟩
theorem rstored_ok (r : Nat) (P : RPh) (L : Lg) (v : Int) (w : World) (h : RBus w r P L) (hf : L.O.length < 65536) : Calls Tryz.prog 91 #[.pointer (some ⟨r, 0, none⟩), .int .u32 4294967236, .int .u32 v] w fun e w' => e = .returned (.int .i64 0) ∧ ∃ P', RStp w r P w' P' { L with O := L.O ++ [v % 256] } := by
  have hb0 : Below w.heap.size w (w.alloc (.cells #[.int .u8 (v % 256)] 5)) := (Below.refl _ w).alloc (Nat.le_refl _) _
  have h' := h.below hb0
  obtain ⟨a', c', w1, hr, hS, ht, ha, hlt⟩ := srow_append h'.out 49 49 _ [v % 256] (src_byte w (v % 256) 5 _ rfl) (by intro y hy; simp at hy; subst hy; omega) (by simp; omega)
  have h1 : (L.O.length : Int) < 65536 := by omega
  have c4 := h.eight.c3
  obtain ⟨t, hg⟩ := h'.tag
  have hbb : w1.heap[r]? = (w.alloc (.cells #[.int .u8 (v % 256)] 5)).heap[r]? := ht.block r h'.blt hg.ne.2.1
  have c4' : w1.cell? ⟨r, 3, none⟩ = some (.slice P.pa L.O.length P.pc) := (World.cell?_of_block hbb).trans h'.eight.c3
  have f4 : w1.frozen? ⟨r, 3, none⟩ = false := (World.frozen?_of_block hbb).trans (h'.free (j := 3) (by omega))
  have HE : Hid (RStp w r P (w1.setCell ⟨r, 3, none⟩ (.slice a' (L.O.length + 1) c')) { P with pa := a', pc := c' } { L with O := L.O ++ [v % 256] }) := by
    have e := rout_end h' ht hS (by simp; omega) ha hlt
    rw [List.length_append] at e
    exact (RStp.below h hb0).trans e
  have HR : Hid _ := hr
  clear h h' hS ht ha hlt hg hbb hr hb0
  go_enter Tryz.func91, Tryz.ntmps91
  go_wp2_with (at_builtin; refine wpList_append_eq rfl _ _ _ _ rfl _ _ _ _ rfl rfl HR.out ?_)
  go_ret
  exact ⟨rfl, _, HE.out⟩
theorem rstored_7 (r : Nat) (a v : Int) (w : World) (hk : ¬ a = 4294967236 ∧ ¬ a = 4294967244 ∧ ¬ a = 4294967248 ∧ ¬ a = 4294967252) : Calls Tryz.prog 91 #[.pointer (some ⟨r, 0, none⟩), .int .u32 a, .int .u32 v] w fun e w' => e = .returned (.int .i64 1) ∧ w' = w := by
  obtain ⟨d1, d3, d4, d5⟩ := hk
  go_enter Tryz.func91, Tryz.ntmps91
  go_wp2
  go_ret
  exact ⟨rfl, rfl⟩
theorem rstored_any (r : Nat) (P : RPh) (L : Lg) (a v : Int) (w : World) (h : RBus w r P L) (v0 : 0 ≤ v) (v1 : v ≤ 4294967295) : Calls Tryz.prog 91 #[.pointer (some ⟨r, 0, none⟩), .int .u32 a, .int .u32 v] w fun e w' => e = .returned (.int .i64 (L.into v (devN a)).1) ∧ ∃ P', RStp w r P w' P' (L.into v (devN a)).2 := by
  have h7 := devN_le a
  have hc := dev_const a
  have bad : (¬ a = 4294967236 ∧ ¬ a = 4294967244 ∧ ¬ a = 4294967248 ∧ ¬ a = 4294967252) → (Calls Tryz.prog 91 #[.pointer (some ⟨r, 0, none⟩), .int .u32 a, .int .u32 v] w fun e w' => e = .returned (.int .i64 1) ∧ ∃ P', RStp w r P w' P' L) := fun hh => (rstored_7 r a v w hh).mono fun e w' ⟨he, hw⟩ => ⟨he, P, by rw [hw]; exact RStp.refl h⟩
  have hk : devN a = 0 ∨ devN a = 1 ∨ devN a = 2 ∨ devN a = 3 ∨ devN a = 4 ∨ devN a = 5 ∨ devN a = 6 ∨ devN a = 7 := by omega
  rcases hk with hk | hk | hk | hk | hk | hk | hk | hk
  · have e := hc.1 hk; rw [hk]; exact bad (by omega)
  · have e := hc.2.1 hk; rw [hk]; subst e
    unfold Lg.into
    by_cases hO : L.O.length < 65536
    · rw [if_pos hO]; exact rstored_ok r P L v w h hO
    · rw [if_neg hO]; exact (rstored_full r P L v w h (by omega)).mono fun e w' ⟨he, hw⟩ => ⟨he, P, by rw [hw]; exact RStp.refl h⟩
  · have e := hc.2.2.1 hk; rw [hk]; exact bad (by omega)
  · have e := hc.2.2.2.1 hk; rw [hk]; subst e; exact (rstored_3 r P L v w h v0 v1).mono fun e w' ⟨he, hS⟩ => ⟨he, P, hS⟩
  · have e := hc.2.2.2.2.1 hk; rw [hk]; subst e; exact (rstored_4 r P L v w h v0 v1).mono fun e w' ⟨he, hS⟩ => ⟨he, P, hS⟩
  · have e := hc.2.2.2.2.2.1 hk; rw [hk]; subst e; exact rstored_5 r P L v _ _ w (done_any r P L v w h)
  · have e := hc.2.2.2.2.2.2 hk; rw [hk]; exact bad (by omega)
  · rw [hk]
    refine bad ⟨fun e => ?_, fun e => ?_, fun e => ?_, fun e => ?_⟩ <;> (rw [e] at hk; exact absurd hk (by decide))
end Go.Proofs.YteegkhnikcioiaaGreatDoor

namespace Go.Proofs.YteegkhnikcioiaaGreatDoor
open Go.ChangeShapes Go.WideShapes Go.ChangeAt Go.RowKit
attribute [local go_sem ↓] loadSec_seal storeSec_seal eqlSec_seal zeroSec
attribute [local go_sem] loadSec_run storeSec_run rowAt_at rowAt_old rowAt_drew rowAt_drewN roomSec_new roomAt_old roomAt_drew roomAt_drewN putSec_new putRow_past rowSec_put size_put putRow_drew putRow_drewN alloc_drewN setCell_drewN sec_size

set_option linter.unusedVariables false

theorem rboxed {w : World} {r : Nat} {P : RPh} {L : Lg} (h : RBus w r P L) (o : Obj) : RBus (w.alloc o) r P L ∧ RStp w r P (w.alloc o) P L := ⟨h.below ((Below.refl _ w).alloc (Nat.le_refl _) _), RStp.below h ((Below.refl _ w).alloc (Nat.le_refl _) _)⟩
theorem dev_in {a : Int} (h : a < 1048576) : devN a = 7 := by
  unfold devN
  repeat (first | omega | split)
set_option maxHeartbeats 1000000 in
theorem rdo_0i (r : Nat) (P : RPh) (L : Lg) (k a v : Int) (w : World) (h : RBus w r P L) (a0 : 0 ≤ a) (a1 : a ≤ 4294967295) (v0 : 0 ≤ v) (v1 : v ≤ 4294967295) (hk : k = 0) (hin : a < 1048576) : Calls Tryz.prog 60 #[.pointer (some ⟨r, 0, none⟩), .agg #[.int .i64 k, .int .u32 a, .int .u32 v]] w fun e w' => e = .returned (.tuple #[.int .u32 0, .int .i64 0]) ∧ ∃ P', RStp w r P w' P' L := by
  have H : Hid (∀ o, RBus (w.alloc o) r P L ∧ RStp w r P (w.alloc o) P L) := fun o => rboxed h o
  have hd : decide (a < 1048576) = true := decide_eq_true hin
  clear h
  subst hk
  go_enter Tryz.func60, Tryz.ntmps60
  go_wp2_with (go_at_call 51; refine (inside_any _ _).mono ?_; rw [hd]; rintro e w1 ⟨rfl, hw⟩; obtain rfl := hw.symm)
  go_ret2
  exact ⟨rfl, P, (H.out _).2⟩
set_option maxHeartbeats 1000000 in
theorem rdo_0o (r : Nat) (P : RPh) (L : Lg) (k a v : Int) (w : World) (h : RBus w r P L) (a0 : 0 ≤ a) (a1 : a ≤ 4294967295) (v0 : 0 ≤ v) (v1 : v ≤ 4294967295) (hk : k = 0) (hin : ¬ a < 1048576) : Calls Tryz.prog 60 #[.pointer (some ⟨r, 0, none⟩), .agg #[.int .i64 k, .int .u32 a, .int .u32 v]] w fun e w' => e = .returned (.tuple #[.int .u32 0, .int .i64 0]) ∧ ∃ P', RStp w r P w' P' L := by
  have H : Hid (∀ o, RBus (w.alloc o) r P L ∧ RStp w r P (w.alloc o) P L) := fun o => rboxed h o
  have hd : decide (a < 1048576) = false := decide_eq_false hin
  clear h
  subst hk
  go_enter Tryz.func60, Tryz.ntmps60
  go_wp2_with (go_at_call 51; refine (inside_any _ _).mono ?_; rw [hd]; rintro e w1 ⟨rfl, hw⟩; obtain rfl := hw.symm)
  go_ret2
  exact ⟨rfl, P, (H.out _).2⟩
set_option maxHeartbeats 1000000 in
theorem rdo_2i (r : Nat) (P : RPh) (L : Lg) (k a v : Int) (w : World) (h : RBus w r P L) (a0 : 0 ≤ a) (a1 : a ≤ 4294967295) (v0 : 0 ≤ v) (v1 : v ≤ 4294967295) (hk : k = 2) (hin : a < 1048576) : Calls Tryz.prog 60 #[.pointer (some ⟨r, 0, none⟩), .agg #[.int .i64 k, .int .u32 a, .int .u32 v]] w fun e w' => e = .returned (.tuple #[.int .u32 (L.M a.toNat), .int .i64 0]) ∧ ∃ P', RStp w r P w' P' L := by
  have H : Hid (∀ o, RBus (w.alloc o) r P L ∧ RStp w r P (w.alloc o) P L) := fun o => rboxed h o
  have hd : decide (a < 1048576) = true := decide_eq_true hin
  obtain ⟨n, rfl⟩ := Int.eq_ofNat_of_zero_le a0
  have hb := h.byte n (by omega)
  clear h
  subst hk
  go_enter Tryz.func60, Tryz.ntmps60
  go_wp2_with (first
    | (go_at_call 51; refine (inside_any _ _).mono ?_; rw [hd]; rintro e w1 ⟨rfl, hw⟩; obtain rfl := hw.symm)
    | (go_at_call 88; refine (byteAt_any r P L n _ (H.out _).1 (by omega)).mono ?_; rintro e w1 ⟨rfl, hw⟩; obtain rfl := hw.symm))
  go_ret2
  exact ⟨rfl, P, (H.out _).2⟩
set_option maxHeartbeats 1000000 in
theorem rdo_2o (r : Nat) (P : RPh) (L : Lg) (k a v : Int) (w : World) (h : RBus w r P L) (a0 : 0 ≤ a) (a1 : a ≤ 4294967295) (v0 : 0 ≤ v) (v1 : v ≤ 4294967295) (hk : k = 2) (hin : ¬ a < 1048576) : Calls Tryz.prog 60 #[.pointer (some ⟨r, 0, none⟩), .agg #[.int .i64 k, .int .u32 a, .int .u32 v]] w fun e w' => e = .returned (.tuple #[.int .u32 0, .int .i64 1]) ∧ ∃ P', RStp w r P w' P' L := by
  have H : Hid (∀ o, RBus (w.alloc o) r P L ∧ RStp w r P (w.alloc o) P L) := fun o => rboxed h o
  have hd : decide (a < 1048576) = false := decide_eq_false hin
  clear h
  subst hk
  go_enter Tryz.func60, Tryz.ntmps60
  go_wp2_with (go_at_call 51; refine (inside_any _ _).mono ?_; rw [hd]; rintro e w1 ⟨rfl, hw⟩; obtain rfl := hw.symm)
  go_ret2
  exact ⟨rfl, P, (H.out _).2⟩
set_option maxHeartbeats 1000000 in
theorem rdo_4i (r : Nat) (P : RPh) (L : Lg) (k a v : Int) (w : World) (h : RBus w r P L) (a0 : 0 ≤ a) (a1 : a ≤ 4294967295) (v0 : 0 ≤ v) (v1 : v ≤ 4294967295) (hk : k = 4) (hin : a < 1048576) : Calls Tryz.prog 60 #[.pointer (some ⟨r, 0, none⟩), .agg #[.int .i64 k, .int .u32 a, .int .u32 v]] w fun e w' => e = .returned (.tuple #[.int .u32 0, .int .i64 0]) ∧ ∃ P', RStp w r P w' P' { L with M := upd L.M a.toNat (v % 256) } := by
  have H : Hid (∀ o, RBus (w.alloc o) r P L ∧ RStp w r P (w.alloc o) P L) := fun o => rboxed h o
  have hd : decide (a < 1048576) = true := decide_eq_true hin
  obtain ⟨n, rfl⟩ := Int.eq_ofNat_of_zero_le a0
  clear h
  subst hk
  go_enter Tryz.func60, Tryz.ntmps60
  go_wp2_with (first
    | (go_at_call 51; refine (inside_any _ _).mono ?_; rw [hd]; rintro e w1 ⟨rfl, hw⟩; obtain rfl := hw.symm)
    | (go_at_call 89; refine (lay_any r P L n (v % 256) _ (H.out _).1 (by omega) (by omega) (by omega)).mono ?_; rintro e w1 ⟨rfl, hS⟩))
  go_ret2
  exact ⟨rfl, P, (H.out _).2.trans hS⟩
set_option maxHeartbeats 1000000 in
theorem rdo_4o (r : Nat) (P : RPh) (L : Lg) (k a v : Int) (w : World) (h : RBus w r P L) (a0 : 0 ≤ a) (a1 : a ≤ 4294967295) (v0 : 0 ≤ v) (v1 : v ≤ 4294967295) (hk : k = 4) (hin : ¬ a < 1048576) : Calls Tryz.prog 60 #[.pointer (some ⟨r, 0, none⟩), .agg #[.int .i64 k, .int .u32 a, .int .u32 v]] w fun e w' => e = .returned (.tuple #[.int .u32 0, .int .i64 1]) ∧ ∃ P', RStp w r P w' P' L := by
  have H : Hid (∀ o, RBus (w.alloc o) r P L ∧ RStp w r P (w.alloc o) P L) := fun o => rboxed h o
  have hd : decide (a < 1048576) = false := decide_eq_false hin
  clear h
  subst hk
  go_enter Tryz.func60, Tryz.ntmps60
  go_wp2_with (go_at_call 51; refine (inside_any _ _).mono ?_; rw [hd]; rintro e w1 ⟨rfl, hw⟩; obtain rfl := hw.symm)
  go_ret2
  exact ⟨rfl, P, (H.out _).2⟩
set_option maxHeartbeats 1000000 in
theorem rdo_1w (r : Nat) (P : RPh) (L : Lg) (k a v : Int) (w : World) (h : RBus w r P L) (a0 : 0 ≤ a) (a1 : a ≤ 4294967295) (v0 : 0 ≤ v) (v1 : v ≤ 4294967295) (hk : k = 1) (hin : a < 1048576) (h4 : a % 4 = 0) : Calls Tryz.prog 60 #[.pointer (some ⟨r, 0, none⟩), .agg #[.int .i64 k, .int .u32 a, .int .u32 v]] w fun e w' => e = .returned (.tuple #[.int .u32 (wordAt L.M a), .int .i64 0]) ∧ ∃ P', RStp w r P w' P' L := by
  have H : Hid (∀ o, RBus (w.alloc o) r P L ∧ RStp w r P (w.alloc o) P L) := fun o => rboxed h o
  have hd : decide (a < 1048576) = true := decide_eq_true hin
  obtain ⟨q, hq⟩ : ∃ q : Nat, a / 4 = (q : Int) := ⟨(a / 4).toNat, by omega⟩
  have i0 : (0 : Int) ≤ (q : Int) := by omega
  have i1 : (q : Int) < 262144 := by omega
  have HQ : Hid (a = ((4 * q : Nat) : Int)) := by show a = ((4 * q : Nat) : Int); omega
  have hlr := h.blt
  have hlm := h.mem.lt
  have c0 := h.eight.c0
  have cw := h.mem.at (k := q) (by omega)
  obtain ⟨cw, cf⟩ := cw
  clear h
  subst hk
  go_enter Tryz.func60, Tryz.ntmps60
  go_wp2_with (go_at_call 51; refine (inside_any _ _).mono ?_; rw [hd]; rintro e w1 ⟨rfl, hw⟩; obtain rfl := hw.symm)
  go_quiet (fail)
  go_wp2
  go_ret2
  exact ⟨ret2i (wd_word L.M q HQ.out).symm rfl, P, (H.out _).2.trans (RStp.below (H.out _).1 (drewNB _ _))⟩
set_option maxHeartbeats 1000000 in
theorem rdo_1b (r : Nat) (P : RPh) (L : Lg) (k a v : Int) (w : World) (h : RBus w r P L) (a0 : 0 ≤ a) (a1 : a ≤ 4294967295) (v0 : 0 ≤ v) (v1 : v ≤ 4294967295) (hk : k = 1) (hin : a < 1048576) (h4 : ¬ a % 4 = 0) : Calls Tryz.prog 60 #[.pointer (some ⟨r, 0, none⟩), .agg #[.int .i64 k, .int .u32 a, .int .u32 v]] w fun e w' => e = .returned (.tuple #[.int .u32 0, .int .i64 1]) ∧ ∃ P', RStp w r P w' P' L := by
  have H : Hid (∀ o, RBus (w.alloc o) r P L ∧ RStp w r P (w.alloc o) P L) := fun o => rboxed h o
  have hd : decide (a < 1048576) = true := decide_eq_true hin
  clear h
  subst hk
  go_enter Tryz.func60, Tryz.ntmps60
  go_wp2_with (go_at_call 51; refine (inside_any _ _).mono ?_; rw [hd]; rintro e w1 ⟨rfl, hw⟩; obtain rfl := hw.symm)
  go_ret2
  exact ⟨rfl, P, (H.out _).2⟩
set_option maxHeartbeats 1000000 in
theorem rdo_1o (r : Nat) (P : RPh) (L : Lg) (k a v : Int) (w : World) (h : RBus w r P L) (a0 : 0 ≤ a) (a1 : a ≤ 4294967295) (v0 : 0 ≤ v) (v1 : v ≤ 4294967295) (hk : k = 1) (hin : ¬ a < 1048576) : Calls Tryz.prog 60 #[.pointer (some ⟨r, 0, none⟩), .agg #[.int .i64 k, .int .u32 a, .int .u32 v]] w fun e w' => e = .returned (.tuple #[.int .u32 (L.dev (devN a)).1.1, .int .i64 (L.dev (devN a)).1.2]) ∧ ∃ P', RStp w r P w' P' (L.dev (devN a)).2 := by
  have H : Hid (∀ o, RBus (w.alloc o) r P L ∧ RStp w r P (w.alloc o) P L) := fun o => rboxed h o
  have hd : decide (a < 1048576) = false := decide_eq_false hin
  clear h
  subst hk
  go_enter Tryz.func60, Tryz.ntmps60
  go_wp2_with (first
    | (go_at_call 51; refine (inside_any _ _).mono ?_; rw [hd]; rintro e w1 ⟨rfl, hw⟩; obtain rfl := hw.symm)
    | (go_at_call 90; refine (rloaded_any r P L a _ (H.out _).1).mono ?_; rintro e w1 ⟨rfl, P', hS⟩))
  go_ret2
  exact ⟨rfl, P', (H.out _).2.trans hS⟩
set_option maxHeartbeats 1000000 in
theorem rdo_3w (r : Nat) (P : RPh) (L : Lg) (k a v : Int) (w : World) (h : RBus w r P L) (a0 : 0 ≤ a) (a1 : a ≤ 4294967295) (v0 : 0 ≤ v) (v1 : v ≤ 4294967295) (hk : k = 3) (hin : a < 1048576) (h4 : a % 4 = 0) : Calls Tryz.prog 60 #[.pointer (some ⟨r, 0, none⟩), .agg #[.int .i64 k, .int .u32 a, .int .u32 v]] w fun e w' => e = .returned (.tuple #[.int .u32 0, .int .i64 0]) ∧ ∃ P', RStp w r P w' P' { L with M := pokeM L.M a v } := by
  have H : Hid (∀ o, RBus (w.alloc o) r P L ∧ RStp w r P (w.alloc o) P L) := fun o => rboxed h o
  have hd : decide (a < 1048576) = true := decide_eq_true hin
  obtain ⟨q, hq⟩ : ∃ q : Nat, a / 4 = (q : Int) := ⟨(a / 4).toNat, by omega⟩
  have i0 : (0 : Int) ≤ (q : Int) := by omega
  have i1 : (q : Int) < 262144 := by omega
  have HQ : Hid (a = ((4 * q : Nat) : Int)) := by show a = ((4 * q : Nat) : Int); omega
  have hlr := h.blt
  have hlm := h.mem.lt
  have c0 := h.eight.c0
  have cw := h.mem.at (k := q) (by omega)
  obtain ⟨cw, cf⟩ := cw
  have HB : Hid (RBus w r P L) := h
  clear h
  subst hk
  go_enter Tryz.func60, Tryz.ntmps60
  go_wp2_with (go_at_call 51; refine (inside_any _ _).mono ?_; rw [hd]; rintro e w1 ⟨rfl, hw⟩; obtain rfl := hw.symm)
  go_region
  all_goals
    go_wp2
    go_ret2
    exact ⟨rfl, P, (rpoke_end HB.out (by omega) HQ.out v0 v1 rfl).trans (RStp.below (rpoke_end HB.out (by omega) HQ.out v0 v1 rfl).bus (((Below.refl _ _).alloc (Nat.le_refl _) _).drew))⟩
set_option maxHeartbeats 1000000 in
theorem rdo_3b (r : Nat) (P : RPh) (L : Lg) (k a v : Int) (w : World) (h : RBus w r P L) (a0 : 0 ≤ a) (a1 : a ≤ 4294967295) (v0 : 0 ≤ v) (v1 : v ≤ 4294967295) (hk : k = 3) (hin : a < 1048576) (h4 : ¬ a % 4 = 0) : Calls Tryz.prog 60 #[.pointer (some ⟨r, 0, none⟩), .agg #[.int .i64 k, .int .u32 a, .int .u32 v]] w fun e w' => e = .returned (.tuple #[.int .u32 0, .int .i64 1]) ∧ ∃ P', RStp w r P w' P' L := by
  have H : Hid (∀ o, RBus (w.alloc o) r P L ∧ RStp w r P (w.alloc o) P L) := fun o => rboxed h o
  have hd : decide (a < 1048576) = true := decide_eq_true hin
  clear h
  subst hk
  go_enter Tryz.func60, Tryz.ntmps60
  go_wp2_with (go_at_call 51; refine (inside_any _ _).mono ?_; rw [hd]; rintro e w1 ⟨rfl, hw⟩; obtain rfl := hw.symm)
  go_ret2
  exact ⟨rfl, P, (H.out _).2⟩
set_option maxHeartbeats 1000000 in
theorem rdo_3o (r : Nat) (P : RPh) (L : Lg) (k a v : Int) (w : World) (h : RBus w r P L) (a0 : 0 ≤ a) (a1 : a ≤ 4294967295) (v0 : 0 ≤ v) (v1 : v ≤ 4294967295) (hk : k = 3) (hin : ¬ a < 1048576) : Calls Tryz.prog 60 #[.pointer (some ⟨r, 0, none⟩), .agg #[.int .i64 k, .int .u32 a, .int .u32 v]] w fun e w' => e = .returned (.tuple #[.int .u32 0, .int .i64 (L.into v (devN a)).1]) ∧ ∃ P', RStp w r P w' P' (L.into v (devN a)).2 := by
  have H : Hid (∀ o, RBus (w.alloc o) r P L ∧ RStp w r P (w.alloc o) P L) := fun o => rboxed h o
  have hd : decide (a < 1048576) = false := decide_eq_false hin
  clear h
  subst hk
  go_enter Tryz.func60, Tryz.ntmps60
  go_wp2_with (first
    | (go_at_call 51; refine (inside_any _ _).mono ?_; rw [hd]; rintro e w1 ⟨rfl, hw⟩; obtain rfl := hw.symm)
    | (go_at_call 91; refine (rstored_any r P L a v _ (H.out _).1 v0 v1).mono ?_; rintro e w1 ⟨rfl, P', hS⟩))
  go_ret2
  exact ⟨rfl, P', (H.out _).2.trans hS⟩
set_option maxHeartbeats 1000000 in
theorem rdo_5i (r : Nat) (P : RPh) (L : Lg) (k a v : Int) (w : World) (h : RBus w r P L) (a0 : 0 ≤ a) (a1 : a ≤ 4294967295) (v0 : 0 ≤ v) (v1 : v ≤ 4294967295) (k0 : ¬ k = 0) (k1 : ¬ k = 1) (k2 : ¬ k = 2) (k3 : ¬ k = 3) (k4 : ¬ k = 4) (hin : a < 1048576) : Calls Tryz.prog 60 #[.pointer (some ⟨r, 0, none⟩), .agg #[.int .i64 k, .int .u32 a, .int .u32 v]] w fun e w' => e = .returned (.tuple #[.int .u32 0, .int .i64 1]) ∧ ∃ P', RStp w r P w' P' L := by
  have H : Hid (∀ o, RBus (w.alloc o) r P L ∧ RStp w r P (w.alloc o) P L) := fun o => rboxed h o
  have hd : decide (a < 1048576) = true := decide_eq_true hin
  clear h
  go_enter Tryz.func60, Tryz.ntmps60
  go_wp2_with (go_at_call 51; refine (inside_any _ _).mono ?_; rw [hd]; rintro e w1 ⟨rfl, hw⟩; obtain rfl := hw.symm)
  go_ret2
  exact ⟨rfl, P, (H.out _).2⟩
set_option maxHeartbeats 1000000 in
theorem rdo_5o (r : Nat) (P : RPh) (L : Lg) (k a v : Int) (w : World) (h : RBus w r P L) (a0 : 0 ≤ a) (a1 : a ≤ 4294967295) (v0 : 0 ≤ v) (v1 : v ≤ 4294967295) (k0 : ¬ k = 0) (k1 : ¬ k = 1) (k2 : ¬ k = 2) (k3 : ¬ k = 3) (k4 : ¬ k = 4) (hin : ¬ a < 1048576) : Calls Tryz.prog 60 #[.pointer (some ⟨r, 0, none⟩), .agg #[.int .i64 k, .int .u32 a, .int .u32 v]] w fun e w' => e = .returned (.tuple #[.int .u32 0, .int .i64 1]) ∧ ∃ P', RStp w r P w' P' L := by
  have H : Hid (∀ o, RBus (w.alloc o) r P L ∧ RStp w r P (w.alloc o) P L) := fun o => rboxed h o
  have hd : decide (a < 1048576) = false := decide_eq_false hin
  clear h
  go_enter Tryz.func60, Tryz.ntmps60
  go_wp2_with (go_at_call 51; refine (inside_any _ _).mono ?_; rw [hd]; rintro e w1 ⟨rfl, hw⟩; obtain rfl := hw.symm)
  go_ret2
  exact ⟨rfl, P, (H.out _).2⟩
theorem rdo_any (r : Nat) (P : RPh) (L : Lg) (k a v : Int) (w : World) (h : RBus w r P L) (a0 : 0 ≤ a) (a1 : a ≤ 4294967295) (v0 : 0 ≤ v) (v1 : v ≤ 4294967295) : Calls Tryz.prog 60 #[.pointer (some ⟨r, 0, none⟩), .agg #[.int .i64 k, .int .u32 a, .int .u32 v]] w fun e w' => e = .returned (.tuple #[.int .u32 (L.step k a v).1.1, .int .i64 (L.step k a v).1.2]) ∧ ∃ P', RStp w r P w' P' (L.step k a v).2 := by
  have wno : ¬ a < 1048576 → isW a = false := fun hh => isW_no (by omega)
  have wyes : a < 1048576 → a % 4 = 0 → isW a = true := fun h1 h2 => by unfold isW; exact decide_eq_true ⟨h2, h1⟩
  have wbad : ¬ a % 4 = 0 → isW a = false := fun hh => by unfold isW; exact decide_eq_false (fun e => hh e.1)
  unfold Lg.step
  by_cases k0 : k = 0
  · rw [if_pos k0]
    by_cases hin : a < 1048576
    · exact rdo_0i r P L k a v w h a0 a1 v0 v1 k0 hin
    · exact rdo_0o r P L k a v w h a0 a1 v0 v1 k0 hin
  rw [if_neg k0]
  by_cases k1 : k = 1
  · rw [if_pos k1]
    unfold Lg.load
    by_cases hin : a < 1048576
    · by_cases h4 : a % 4 = 0
      · rw [if_pos (wyes hin h4)]; exact rdo_1w r P L k a v w h a0 a1 v0 v1 k1 hin h4
      · rw [wbad h4, if_neg (by decide), dev_in hin]; exact rdo_1b r P L k a v w h a0 a1 v0 v1 k1 hin h4
    · rw [wno hin, if_neg (by decide)]; exact rdo_1o r P L k a v w h a0 a1 v0 v1 k1 hin
  rw [if_neg k1]
  by_cases k2 : k = 2
  · rw [if_pos k2]
    unfold Lg.ldb
    by_cases hin : a < 1048576
    · rw [if_pos hin]; exact rdo_2i r P L k a v w h a0 a1 v0 v1 k2 hin
    · rw [if_neg hin]; exact rdo_2o r P L k a v w h a0 a1 v0 v1 k2 hin
  rw [if_neg k2]
  by_cases k3 : k = 3
  · rw [if_pos k3]
    unfold Lg.store
    by_cases hin : a < 1048576
    · by_cases h4 : a % 4 = 0
      · rw [if_pos (wyes hin h4)]; exact rdo_3w r P L k a v w h a0 a1 v0 v1 k3 hin h4
      · rw [wbad h4, if_neg (by decide), dev_in hin]; exact rdo_3b r P L k a v w h a0 a1 v0 v1 k3 hin h4
    · rw [wno hin, if_neg (by decide)]; exact rdo_3o r P L k a v w h a0 a1 v0 v1 k3 hin
  rw [if_neg k3]
  by_cases k4 : k = 4
  · rw [if_pos k4]
    unfold Lg.stb
    by_cases hin : a < 1048576
    · rw [if_pos hin]; exact rdo_4i r P L k a v w h a0 a1 v0 v1 k4 hin
    · rw [if_neg hin]; exact rdo_4o r P L k a v w h a0 a1 v0 v1 k4 hin
  rw [if_neg k4]
  by_cases hin : a < 1048576
  · exact rdo_5i r P L k a v w h a0 a1 v0 v1 k0 k1 k2 k3 k4 hin
  · exact rdo_5o r P L k a v w h a0 a1 v0 v1 k0 k1 k2 k3 k4 hin
end Go.Proofs.YteegkhnikcioiaaGreatDoor

namespace Go.Proofs.YteegkhnikcioiaaGreatDoor
open Go.ChangeShapes Go.WideShapes Go.ChangeAt Go.RowKit
attribute [local go_sem ↓] loadSec_seal storeSec_seal eqlSec_seal zeroSec
attribute [local go_sem] loadSec_run storeSec_run rowAt_at rowAt_old rowAt_drew rowAt_drewN roomSec_new roomAt_old roomAt_drew roomAt_drewN putSec_new putRow_past rowSec_put size_put putRow_drew putRow_drewN alloc_drewN setCell_drewN sec_size

set_option linter.unusedVariables false

structure Duo (w : World) (b : Nat) (P : Ph) (L : Lg) (r : Nat) (Q : RPh) (K : Lg) (X : World) : Prop where
  own : Own w b P L X
  ref : RBus X r Q K
  all : ∀ x, Q.all r x → w.heap.size ≤ x
  ap : ∀ x, P.all b x → ¬ Q.all r x
theorem Duo.stepB {w X Y : World} {b r : Nat} {P P' : Ph} {Q : RPh} {L L' K : Lg} (h : Duo w b P L r Q K X) (hs : Stp X b P Y P' L') : Duo w b P' L' r Q K Y :=
  ⟨h.own.step hs, h.ref.tou hs.tou h.ap, h.all, fun x hx hq => (hs.new x hx).elim (fun e => h.ap x e hq) fun e => by have := h.ref.lt x hq; omega⟩
theorem Duo.stepR {w X Y : World} {b r : Nat} {P : Ph} {Q Q' : RPh} {L K K' : Lg} (h : Duo w b P L r Q K X) (hs : RStp X r Q Y Q' K') : Duo w b P L r Q' K' Y :=
  ⟨h.own.tou hs.tou fun x hx => ⟨h.all x hx, fun e => h.ap x e hx⟩, hs.bus, fun x hx => (hs.new x hx).elim (h.all x) fun e => Nat.le_trans h.own.below.size e, fun x hx hq => (hs.new x hq).elim (fun e => h.ap x hx e) fun e => by have := h.own.bus.lt x hx; omega⟩
theorem Duo.next {w X Y : World} {b r : Nat} {P : Ph} {Q : RPh} {L K : Lg} (h : Duo w b P L r Q K X) (hb : Below X.heap.size X Y) : Duo w b P L r Q K Y := h.stepB (Stp.below h.own.bus hb)
/-- A block of a caller's own, that is neither's. -/
theorem Duo.cellB {w X Y : World} {b r : Nat} {P P' : Ph} {Q : RPh} {L L' K : Lg} (h : Duo w b P L r Q K X) {g : Nat} (hg : X.heap.size ≤ g) {Z : World} (hz : Below X.heap.size X Z) (hl : g < Z.heap.size) (hs : Stp Z b P Y P' L') : Y.heap[g]? = Z.heap[g]? :=
  hs.tou.block g hl fun e => by have := h.own.bus.lt g e; omega
theorem Duo.cellR {w X Y : World} {b r : Nat} {P : Ph} {Q Q' : RPh} {L K K' : Lg} (h : Duo w b P L r Q K X) {g : Nat} (hg : X.heap.size ≤ g) {Z : World} (hl : g < Z.heap.size) (hs : RStp Z r Q Y Q' K') : Y.heap[g]? = Z.heap[g]? :=
  hs.tou.block g hl fun e => by have := h.ref.lt g e; omega
/-! Words that are copied. -/
theorem info30 : (Tryz.prog.info? 23).map (fun i => (i.zero, i.size, i.bytes)) = some (some (.int .u32 0), 1, 4) := by kernel_rfl
theorem size30 : (Tryz.prog.info? 23).map (·.size) = some 1 := by kernel_rfl
def rowW (f : Nat → Int) (len : Nat) : List Value := (List.range len).map fun i => .int .u32 (f i)
theorem rowW_len (f : Nat → Int) (n : Nat) : (rowW f n).length = n := by simp [rowW]
theorem rowW_at (f : Nat → Int) {n i : Nat} (h : i < n) : (rowW f n)[i]? = some (.int .u32 (f i)) := by simp [rowW, h]
theorem rowW_one (f : Nat → Int) (len : Nat) : ∀ u ∈ rowW f len, u.oneCell' = true := by
  intro u hu
  simp [rowW] at hu
  obtain ⟨i, _, rfl⟩ := hu
  rfl
theorem WRow.made {w : World} {base g n c : Nat} {k : Nat} (h : w.ownsRow base 23 1 (.slice (some ⟨g, 0, none⟩) k c) k (madeCells (Value.int .u32 0).cells (k * 1)).toList) (hs : ∃ cur : Array Value, w.heap[g]? = some (.cells cur 23 (0, 0)) ∧ cur.size = n) (hk : k = n) : WRow w g n (fun _ => 0) := by
  subst hk
  obtain ⟨cur', hg', hn'⟩ := hs
  rcases h.2 with ⟨h0, _⟩ | ⟨g', cap, cur, hv, _, hg, _, _, hs, ht⟩
  · simp at h0
  · simp at hv
    obtain ⟨rfl, rfl⟩ := hv
    rw [hg] at hg'
    have e0 : cur = cur' := by injection hg' with h1; injection h1
    subst e0
    have e : cur = (List.replicate k (.int .u32 0)).toArray := by
      rw [List.take_of_length_le (by simp; omega)] at ht
      apply Array.ext'
      rw [ht, Nat.mul_one]
      simpa [Value.cells] using toList_madeCells_one (.int .u32 0) k
    exact ⟨cur, hg, hn', fun i hi => by rw [e]; simp [hi]⟩
theorem WRow.full {w : World} {base g n : Nat} (h : w.ownsRow base 23 1 (.slice (some ⟨g, 0, none⟩) n n) n (madeCells (Value.int .u32 0).cells (n * 1)).toList) : WRow w g n (fun _ => 0) := by
  rcases h.2 with ⟨h0, _⟩ | ⟨g', cap, cur, hv, _, hg, _, _, hs, ht⟩
  · simp at h0
  · have hv' := hv
    simp at hv'
    obtain ⟨rfl, rfl⟩ := hv'
    exact WRow.made h ⟨cur, hg, by omega⟩ rfl
theorem copy_words {w : World} {g n : Nat} {old f : Nat → Int} (h : WRow w g n old) (dl dc : Nat) (a : Option Addr) (len cap : Nat) (hl : len ≤ dl) (hdn : dl ≤ n) (hr : RdW w a len f) : ∃ w', (Builtin.copy_ #[22, 22] 3 #[.slice (some ⟨g, 0, none⟩) dl dc, .slice a len cap]).run Tryz.prog w = .ok (.int .i64 len) w' ∧ WRow w' g n (fun i => if i < len then f i else old i) ∧ Tou (fun x => x = g) w w' := by
  by_cases h0 : len = 0
  · subst h0
    refine ⟨w, run_copy_none (P := Tryz.prog) w _ _ 3 23 _ _ _ _ _ _ Tryz.underlying22 size30 (by simp), h.ext fun i _ => by rw [if_neg (by omega)], Tou.refl _ _⟩
  · rcases hr.2 with e | ⟨b, off, rfl, hc⟩
    · exact absurd e h0
    · obtain ⟨cur, hg, hs, hcur⟩ := h.row
      have hll : (rowW f len).length = len := rowW_len f len
      have e := run_copy_row (P := Tryz.prog) w 22 22 3 23 g 0 dl dc ⟨b, off, none⟩ len cap cur 23 (rowW f len) Tryz.underlying22 size30 hg (by rw [hll]; exact (Nat.min_eq_left hl).symm)
        (fun j v hj => by
          have hjl : j < len := by have := (List.getElem?_eq_some_iff.1 hj).1; rwa [hll] at this
          rw [Addr.add_mid, (hc j hjl).1, ← hj, rowW_at f hjl]) (by rw [hll, hs]; omega) (rowW_one f len)
      rw [hll] at e
      refine ⟨_, e, ⟨_, setRow_heap w g cur _ 23 (0, 0) hg, ?_, fun i hi => ?_⟩, ⟨rfl, rfl, rfl, by simp, fun k hk hm => setRow_other w g k _ hm⟩⟩
      · simp only [List.size_toArray, List.length_append, List.length_take, List.length_drop, hll, Array.length_toList]; omega
      · simp only [List.getElem?_toArray, List.take_zero, List.nil_append, Nat.zero_add]
        by_cases h1 : i < len
        · rw [List.getElem?_append_left (by rw [hll]; exact h1), rowW_at f h1, if_pos h1]
        · rw [List.getElem?_append_right (by rw [hll]; omega), hll, List.getElem?_drop, show len + (i - len) = i by omega, if_neg h1]
          have := hcur i hi
          simpa using this
theorem wd_init (f : Nat → Int) (len : Nat) (hf : ∀ i, i < len → 0 ≤ f i ∧ f i ≤ 4294967295) (i : Nat) : (if i < len then f i else 0) = wd (initM f len) i := by
  have e : ∀ k, k < 4 → initM f len (4 * i + k) = if i < len then byteOf (f i) k else 0 := fun k hk => by
    unfold initM
    rw [show (4 * i + k) / 4 = i by omega, show (4 * i + k) % 4 = k by omega]
  have e0 := e 0 (by omega)
  simp only [Nat.add_zero] at e0
  unfold wd
  rw [e0, e 1 (by omega), e 2 (by omega), e 3 (by omega)]
  by_cases h : i < len
  · simp only [if_pos h]
    have := word_back (f i) (hf i h).1 (hf i h).2
    simp only [tgv] at this
    omega
  · simp only [if_neg h]; rfl
end Go.Proofs.YteegkhnikcioiaaGreatDoor

namespace Go.Proofs.YteegkhnikcioiaaGreatDoor
open Go.ChangeShapes Go.WideShapes Go.ChangeAt Go.RowKit
attribute [local go_sem ↓] loadSec_seal storeSec_seal eqlSec_seal zeroSec
attribute [local go_sem] loadSec_run storeSec_run rowAt_at rowAt_old rowAt_drew rowAt_drewN roomSec_new roomAt_old roomAt_drew roomAt_drewN putSec_new putRow_past rowSec_put size_put putRow_drew putRow_drewN alloc_drewN setCell_drewN sec_size

set_option linter.unusedVariables false

theorem rbnew_many (a : Option Addr) (len cap d : Nat) (w : World) (hl : 262144 < len) : Calls Tryz.prog 49 #[.slice a len cap, .pointer (some ⟨d, 0, none⟩)] w fun e w' => e = .returned (.tuple #[.pointer none, .int .i64 2]) ∧ w' = w := by
  have h1 : (262144 : Int) < (len : Int) := by omega
  go_enter Tryz.func49, Tryz.ntmps49
  go_wp2
  go_ret2
  exact ⟨rfl, rfl⟩
def RPh.new (mb rd : Nat) (R : Rk) : RPh := { mb := mb, rd := rd, R := R, In := ⟨#[]⟩, pa := none, pc := 0 }
theorem RdW.below {w w' : World} {a : Option Addr} {len : Nat} {f : Nat → Int} (h : RdW w a len f) (hb : Below w.heap.size w w') : RdW w' a len f :=
  ⟨h.1, h.2.imp id fun ⟨b, off, ha, hc⟩ => ⟨b, off, ha, fun i hi => ⟨(hb.cell (p := ⟨b, off + i, none⟩) (World.block_lt_of_cell? _ _ (hc i hi).1)).trans (hc i hi).1, (hc i hi).2⟩⟩⟩
theorem RdW.bd {w : World} {a : Option Addr} {len : Nat} {f : Nat → Int} (h : RdW w a len f) : ∀ i, i < len → 0 ≤ f i ∧ f i ≤ 4294967295 := fun i hi => by
  obtain ⟨_, _, _, _, h0, h1⟩ := h.at hi
  exact ⟨h0, h1⟩
theorem rbnew_end {w w2 w3 : World} {rd len : Nat} {R : Rk} {f : Nat → Int} {D : Dk} (hR : RepR w rd R) (hn : R.n = D.n) (hm : R.m = D.m) (hS : ∀ i, i < D.n → lastR R D.m i = strF (D.S i) 1024) (hB : ∀ i, i < D.n → ByteF (D.S i)) (hf : ∀ i, i < len → 0 ≤ f i ∧ f i ≤ 4294967295) (hb2 : Below w.heap.size w w2) (ht : Tou (fun x => x = w.heap.size) w2 w3) (hrow : WRow w3 w.heap.size 262144 (fun i => if i < len then f i else 0)) (h3 : w.heap.size < w3.heap.size) :
    RBus (w3.alloc (.cells (cellsR (RPh.new w.heap.size rd R) (Lg.new f len D)) 81)) w3.heap.size (RPh.new w.heap.size rd R) (Lg.new f len D) ∧ Below w.heap.size w (w3.alloc (.cells (cellsR (RPh.new w.heap.size rd R) (Lg.new f len D)) 81)) := by
  have hb3 : Below w.heap.size w w3 := hb2.trans (ht.below hb2.size fun x hx => by omega)
  have hb4 : Below w.heap.size w (w3.alloc (.cells (cellsR (RPh.new w.heap.size rd R) (Lg.new f len D)) 81)) := hb3.alloc hb3.size _
  refine ⟨{
    mem := (hrow.ext fun i _ => wd_init f len hf i).same (Below.heap_alloc _ _ _ h3)
    byte := fun i _ => init_byte f len i
    dsk := hR.below hb4
    dn := hn
    dm := hm
    dS := hS
    dB := hB
    inp := rfl
    out := ⟨.inl ⟨rfl, rfl, rfl⟩, fun x hx => by cases hx⟩
    il := Nat.zero_le _
    ol := Nat.zero_le _
    tk := u32J
    sc := u32J
    ad := u32J
    cm := u32J
    tag := ⟨fun x => if x < w.heap.size then 3 else if x = w.heap.size then 1 else 0, {
      r := (if_neg (c := w3.heap.size < w.heap.size) (by omega)).trans (if_neg (c := w3.heap.size = w.heap.size) (by omega))
      mb := (if_neg (Nat.lt_irrefl w.heap.size)).trans (if_pos rfl)
      pa := fun x hx => by obtain ⟨p, hp, _⟩ := hx; cases hp
      R := fun x hx => if_pos (hR.lt x hx) }⟩
    lt := fun x hx => by
      have es : (w3.alloc (.cells (cellsR (RPh.new w.heap.size rd R) (Lg.new f len D)) 81)).heap.size = w3.heap.size + 1 := by simp
      rw [es]
      rcases hx with e | e | e | e
      · omega
      · have e : x = w.heap.size := e; omega
      · obtain ⟨p, hp, _⟩ := e; cases hp
      · have := hR.lt x e; omega
    blk := rowAt_new _ _ _ _
    room := roomAt_new _ _ _ _ _ rfl rfl }, hb4⟩
set_option maxHeartbeats 1000000 in
theorem rbnew_bus (a : Option Addr) (len cap rd : Nat) (f : Nat → Int) (R : Rk) (D : Dk) (w : World) (hR : RepR w rd R) (hn : R.n = D.n) (hm : R.m = D.m) (hS : ∀ i, i < D.n → lastR R D.m i = strF (D.S i) 1024) (hB : ∀ i, i < D.n → ByteF (D.S i)) (hl : len ≤ 262144) (hr : RdW w a len f) : Calls Tryz.prog 49 #[.slice a len cap, .pointer (some ⟨rd, 0, none⟩)] w fun e w' => ∃ r, e = .returned (.tuple #[.pointer (some ⟨r, 0, none⟩), .int .i64 0]) ∧ ∃ Q, RBus w' r Q (Lg.new f len D) ∧ (∀ x, Q.all r x → R.mut rd x ∨ w.heap.size ≤ x) ∧ Below w.heap.size w w' := by
  obtain ⟨i0, hi, hz0, hz1, hz2⟩ := info_parts info30
  have h1 : ¬ (262144 : Int) < (len : Int) := by omega
  have HR : Hid (RepR w rd R ∧ R.n = D.n ∧ R.m = D.m ∧ (∀ i, i < D.n → lastR R D.m i = strF (D.S i) 1024) ∧ (∀ i, i < D.n → ByteF (D.S i)) ∧ RdW w a len f) := ⟨hR, hn, hm, hS, hB, hr⟩
  clear hR hn hm hS hB hr
  go_enter Tryz.func49, Tryz.ntmps49
  go_wp2_with (at_make; refine wpList_make_full _ rfl _ _ 22 rfl w.heap.size 23 i0 (.int .u32 0) 1 Tryz.underlying22 hi hz0 hz1 .i64 .i64 _ _ 262144 rfl rfl rfl rfl (by rw [hz2]; decide) (by decide) (Nat.le_refl _) ?_; intro w2 hown2 hgrow2; have hb2 : Below w.heap.size w w2 := (Below.refl _ w).grown hgrow2 (Nat.le_refl _) (fun k hk => by cases hk); have hlt2 := (hown2.lt _ rfl).2; obtain ⟨w3, hr3, hW3, ht3⟩ := copy_words (WRow.full hown2) 262144 262144 a len cap hl (by omega) (HR.out.2.2.2.2.2.below hb2); have HE : Hid _ := rbnew_end (D := D) HR.out.1 HR.out.2.1 HR.out.2.2.1 HR.out.2.2.2.1 HR.out.2.2.2.2.1 HR.out.2.2.2.2.2.bd hb2 ht3 hW3 (Nat.lt_of_lt_of_le hlt2 ht3.size); have hz3 : w.heap.size < w3.heap.size := Nat.lt_of_lt_of_le hlt2 ht3.size; clear hown2 hgrow2 hb2 hlt2 hW3 ht3)
  go_ret2
  refine ⟨w3.heap.size, rfl, _, HE.out.1, ?_, HE.out.2⟩
  rintro x (e | e | e | e)
  · right; omega
  · right; exact Nat.le_of_eq (show x = w.heap.size from e).symm
  · obtain ⟨p, hp, _⟩ := e; cases hp
  · exact .inl e
end Go.Proofs.YteegkhnikcioiaaGreatDoor
