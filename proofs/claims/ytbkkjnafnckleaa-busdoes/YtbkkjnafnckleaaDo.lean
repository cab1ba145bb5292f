/-
  Every access.
-/
import Derived.Test.YtbkkjnafnckleaaStore
namespace Go.Proofs.Ytbkkjnafnckleaa
open Go.ChangeShapes Go.WideShapes Go.ChangeAt Go.RowKit
attribute [local go_sem ↓] loadSec_seal storeSec_seal eqlSec_seal zeroSec
attribute [local go_sem] loadSec_run storeSec_run rowAt_at rowAt_old rowAt_drew rowAt_drewN roomSec_new roomAt_old roomAt_drew roomAt_drewN putSec_new putRow_past rowSec_put size_put putRow_drew putRow_drewN alloc_drewN setCell_drewN sec_size

set_option linter.unusedVariables false

def Lg.ldb (L : Lg) (a : Int) : Int × Int := if a < 1048576 then (L.M a.toNat, 0) else (0, 1)
def Lg.stb (L : Lg) (a v : Int) : Int × Lg := if a < 1048576 then (0, { L with M := upd L.M a.toNat (v % 256) }) else (1, L)
theorem loadByte_any (b : Nat) (P : Ph) (L : Lg) (a : Int) (w : World) (h : Bus w b P L) (a0 : 0 ≤ a) (a1 : a ≤ 4294967295) : Calls Try.prog 43 #[.pointer (some ⟨b, 0, none⟩), .int .u32 a] w fun e w' => e = .returned (.tuple #[.int .u32 (L.ldb a).1, .int .i64 (L.ldb a).2]) ∧ w' = w := by
  unfold Lg.ldb
  by_cases h1 : a < 1048576
  · obtain ⟨n, rfl⟩ := Int.eq_ofNat_of_zero_le a0
    rw [if_pos h1]; exact loadByte_in b P L n w h (by omega)
  · rw [if_neg h1]; exact loadByte_out b P L a w h a0 a1 (by omega)
theorem storeByte_any (b : Nat) (P : Ph) (L : Lg) (a v : Int) (w : World) (h : Bus w b P L) (a0 : 0 ≤ a) (a1 : a ≤ 4294967295) : Calls Try.prog 45 #[.pointer (some ⟨b, 0, none⟩), .int .u32 a, .int .u8 (v % 256)] w fun e w' => e = .returned (.int .i64 (L.stb a v).1) ∧ Stp w b P w' P (L.stb a v).2 := by
  unfold Lg.stb
  by_cases h1 : a < 1048576
  · obtain ⟨n, rfl⟩ := Int.eq_ofNat_of_zero_le a0
    rw [if_pos h1]; exact storeByte_in b P L n (v % 256) w h (by omega) (by omega) (by omega)
  · rw [if_neg h1]
    exact (storeByte_out b P L a (v % 256) w h a0 a1 (by omega)).mono fun e w' ⟨he, hw⟩ => ⟨he, by rw [hw]; exact Stp.refl h⟩
/-- What an access answers, and what is held behind it. -/
def Lg.step (L : Lg) (k a v : Int) : (Int × Int) × Lg :=
  if k = 0 then ((0, 0), L) else if k = 1 then L.load a else if k = 2 then (L.ldb a, L) else if k = 3 then ((0, (L.store a v).1), (L.store a v).2) else if k = 4 then ((0, (L.stb a v).1), (L.stb a v).2) else ((0, 1), L)
theorem boxed {w : World} {b : Nat} {P : Ph} {L : Lg} (h : Bus w b P L) (o : Obj) : Bus (w.alloc o) b P L ∧ Stp w b P (w.alloc o) P L := ⟨h.below ((Below.refl _ w).alloc (Nat.le_refl _) _), Stp.below h ((Below.refl _ w).alloc (Nat.le_refl _) _)⟩
theorem do_0 (b : Nat) (P : Ph) (L : Lg) (k a v : Int) (w : World) (h : Bus w b P L) (a0 : 0 ≤ a) (a1 : a ≤ 4294967295) (v0 : 0 ≤ v) (v1 : v ≤ 4294967295) (hk : k = 0) : Calls Try.prog 17 #[.pointer (some ⟨b, 0, none⟩), .agg #[.int .i64 k, .int .u32 a, .int .u32 v]] w fun e w' => e = .returned (.tuple #[.int .u32 0, .int .i64 0]) ∧ ∃ P', Stp w b P w' P' L := by
  have H : Hid (∀ o, Bus (w.alloc o) b P L ∧ Stp w b P (w.alloc o) P L) := fun o => boxed h o
  clear h
  subst hk
  go_enter Try.func17, Try.ntmps17
  go_wp2
  go_ret2
  exact ⟨rfl, P, (H.out _).2⟩
theorem do_1 (b : Nat) (P : Ph) (L : Lg) (k a v : Int) (w : World) (h : Bus w b P L) (a0 : 0 ≤ a) (a1 : a ≤ 4294967295) (v0 : 0 ≤ v) (v1 : v ≤ 4294967295) (hk : k = 1) : Calls Try.prog 17 #[.pointer (some ⟨b, 0, none⟩), .agg #[.int .i64 k, .int .u32 a, .int .u32 v]] w fun e w' => e = .returned (.tuple #[.int .u32 (L.load a).1.1, .int .i64 (L.load a).1.2]) ∧ ∃ P', Stp w b P w' P' (L.load a).2 := by
  have H : Hid (∀ o, Bus (w.alloc o) b P L ∧ Stp w b P (w.alloc o) P L) := fun o => boxed h o
  clear h
  subst hk
  go_enter Try.func17, Try.ntmps17
  go_wp2_with (go_at_call 42; refine (loadWord_any b P L a _ (H.out _).1 a0 a1).mono ?_; rintro e w1 ⟨rfl, P', hS⟩)
  go_ret2
  exact ⟨rfl, P', (H.out _).2.trans hS⟩
theorem do_2 (b : Nat) (P : Ph) (L : Lg) (k a v : Int) (w : World) (h : Bus w b P L) (a0 : 0 ≤ a) (a1 : a ≤ 4294967295) (v0 : 0 ≤ v) (v1 : v ≤ 4294967295) (hk : k = 2) : Calls Try.prog 17 #[.pointer (some ⟨b, 0, none⟩), .agg #[.int .i64 k, .int .u32 a, .int .u32 v]] w fun e w' => e = .returned (.tuple #[.int .u32 (L.ldb a).1, .int .i64 (L.ldb a).2]) ∧ ∃ P', Stp w b P w' P' L := by
  have H : Hid (∀ o, Bus (w.alloc o) b P L ∧ Stp w b P (w.alloc o) P L) := fun o => boxed h o
  clear h
  subst hk
  go_enter Try.func17, Try.ntmps17
  go_wp2_with (go_at_call 43; refine (loadByte_any b P L a _ (H.out _).1 a0 a1).mono ?_; rintro e w1 ⟨rfl, hw⟩; obtain rfl := hw.symm)
  go_ret2
  exact ⟨rfl, P, (H.out _).2⟩
theorem do_3 (b : Nat) (P : Ph) (L : Lg) (k a v : Int) (w : World) (h : Bus w b P L) (a0 : 0 ≤ a) (a1 : a ≤ 4294967295) (v0 : 0 ≤ v) (v1 : v ≤ 4294967295) (hk : k = 3) : Calls Try.prog 17 #[.pointer (some ⟨b, 0, none⟩), .agg #[.int .i64 k, .int .u32 a, .int .u32 v]] w fun e w' => e = .returned (.tuple #[.int .u32 0, .int .i64 (L.store a v).1]) ∧ ∃ P', Stp w b P w' P' (L.store a v).2 := by
  have H : Hid (∀ o, Bus (w.alloc o) b P L ∧ Stp w b P (w.alloc o) P L) := fun o => boxed h o
  clear h
  subst hk
  go_enter Try.func17, Try.ntmps17
  go_wp2_with (go_at_call 44; refine (storeWord_any b P L a v _ (H.out _).1 a0 a1 v0 v1).mono ?_; rintro e w1 ⟨rfl, P', hS⟩)
  go_ret2
  exact ⟨rfl, P', (H.out _).2.trans hS⟩
theorem do_4 (b : Nat) (P : Ph) (L : Lg) (k a v : Int) (w : World) (h : Bus w b P L) (a0 : 0 ≤ a) (a1 : a ≤ 4294967295) (v0 : 0 ≤ v) (v1 : v ≤ 4294967295) (hk : k = 4) : Calls Try.prog 17 #[.pointer (some ⟨b, 0, none⟩), .agg #[.int .i64 k, .int .u32 a, .int .u32 v]] w fun e w' => e = .returned (.tuple #[.int .u32 0, .int .i64 (L.stb a v).1]) ∧ ∃ P', Stp w b P w' P' (L.stb a v).2 := by
  have H : Hid (∀ o, Bus (w.alloc o) b P L ∧ Stp w b P (w.alloc o) P L) := fun o => boxed h o
  clear h
  subst hk
  go_enter Try.func17, Try.ntmps17
  go_wp2_with (go_at_call 45; refine (storeByte_any b P L a v _ (H.out _).1 a0 a1).mono ?_; rintro e w1 ⟨rfl, hS⟩)
  go_ret2
  exact ⟨rfl, P, (H.out _).2.trans hS⟩
theorem do_5 (b : Nat) (P : Ph) (L : Lg) (k a v : Int) (w : World) (h : Bus w b P L) (a0 : 0 ≤ a) (a1 : a ≤ 4294967295) (v0 : 0 ≤ v) (v1 : v ≤ 4294967295) (k0 : ¬ k = 0) (k1 : ¬ k = 1) (k2 : ¬ k = 2) (k3 : ¬ k = 3) (k4 : ¬ k = 4) : Calls Try.prog 17 #[.pointer (some ⟨b, 0, none⟩), .agg #[.int .i64 k, .int .u32 a, .int .u32 v]] w fun e w' => e = .returned (.tuple #[.int .u32 0, .int .i64 1]) ∧ ∃ P', Stp w b P w' P' L := by
  have H : Hid (∀ o, Bus (w.alloc o) b P L ∧ Stp w b P (w.alloc o) P L) := fun o => boxed h o
  clear h
  go_enter Try.func17, Try.ntmps17
  go_wp2
  go_ret2
  exact ⟨rfl, P, (H.out _).2⟩
theorem do_any (b : Nat) (P : Ph) (L : Lg) (k a v : Int) (w : World) (h : Bus w b P L) (a0 : 0 ≤ a) (a1 : a ≤ 4294967295) (v0 : 0 ≤ v) (v1 : v ≤ 4294967295) : Calls Try.prog 17 #[.pointer (some ⟨b, 0, none⟩), .agg #[.int .i64 k, .int .u32 a, .int .u32 v]] w fun e w' => e = .returned (.tuple #[.int .u32 (L.step k a v).1.1, .int .i64 (L.step k a v).1.2]) ∧ ∃ P', Stp w b P w' P' (L.step k a v).2 := by
  unfold Lg.step
  by_cases k0 : k = 0
  · rw [if_pos k0]; exact do_0 b P L k a v w h a0 a1 v0 v1 k0
  rw [if_neg k0]
  by_cases k1 : k = 1
  · rw [if_pos k1]; exact do_1 b P L k a v w h a0 a1 v0 v1 k1
  rw [if_neg k1]
  by_cases k2 : k = 2
  · rw [if_pos k2]; exact do_2 b P L k a v w h a0 a1 v0 v1 k2
  rw [if_neg k2]
  by_cases k3 : k = 3
  · rw [if_pos k3]; exact do_3 b P L k a v w h a0 a1 v0 v1 k3
  rw [if_neg k3]
  by_cases k4 : k = 4
  · rw [if_pos k4]; exact do_4 b P L k a v w h a0 a1 v0 v1 k4
  rw [if_neg k4]
  exact do_5 b P L k a v w h a0 a1 v0 v1 k0 k1 k2 k3 k4
end Go.Proofs.Ytbkkjnafnckleaa
