/-
  Every access of the document's bus, at its door.
-/
import Derived.Test.YtbkkjnafnckleaaRStore
namespace Go.Proofs.Ytbkkjnafnckleaa
open Go.ChangeShapes Go.WideShapes Go.ChangeAt Go.RowKit
attribute [local go_sem ↓] loadSec_seal storeSec_seal eqlSec_seal zeroSec
attribute [local go_sem] loadSec_run storeSec_run rowAt_at rowAt_old rowAt_drew rowAt_drewN roomSec_new roomAt_old roomAt_drew roomAt_drewN putSec_new putRow_past rowSec_put size_put putRow_drew putRow_drewN alloc_drewN setCell_drewN sec_size

set_option linter.unusedVariables false

theorem rboxed {w : World} {r : Nat} {P : RPh} {L : Lg} (h : RBus w r P L) (o : Obj) : RBus (w.alloc o) r P L ∧ RStp w r P (w.alloc o) P L := ⟨h.below ((Below.refl _ w).alloc (Nat.le_refl _) _), RStp.below h ((Below.refl _ w).alloc (Nat.le_refl _) _)⟩
theorem dev_in {a : Int} (h : a < 1048576) : devN a = 7 := by
  unfold devN
  repeat (first | omega | split)
set_option maxHeartbeats 1000000 in
theorem rdo_0i (r : Nat) (P : RPh) (L : Lg) (k a v : Int) (w : World) (h : RBus w r P L) (a0 : 0 ≤ a) (a1 : a ≤ 4294967295) (v0 : 0 ≤ v) (v1 : v ≤ 4294967295) (hk : k = 0) (hin : a < 1048576) : Calls Try.prog 30 #[.pointer (some ⟨r, 0, none⟩), .agg #[.int .i64 k, .int .u32 a, .int .u32 v]] w fun e w' => e = .returned (.tuple #[.int .u32 0, .int .i64 0]) ∧ ∃ P', RStp w r P w' P' L := by
  have H : Hid (∀ o, RBus (w.alloc o) r P L ∧ RStp w r P (w.alloc o) P L) := fun o => rboxed h o
  have hd : decide (a < 1048576) = true := decide_eq_true hin
  clear h
  subst hk
  go_enter Try.func30, Try.ntmps30
  go_wp2_with (go_at_call 49; refine (inside_any _ _).mono ?_; rw [hd]; rintro e w1 ⟨rfl, hw⟩; obtain rfl := hw.symm)
  go_ret2
  exact ⟨rfl, P, (H.out _).2⟩
set_option maxHeartbeats 1000000 in
theorem rdo_0o (r : Nat) (P : RPh) (L : Lg) (k a v : Int) (w : World) (h : RBus w r P L) (a0 : 0 ≤ a) (a1 : a ≤ 4294967295) (v0 : 0 ≤ v) (v1 : v ≤ 4294967295) (hk : k = 0) (hin : ¬ a < 1048576) : Calls Try.prog 30 #[.pointer (some ⟨r, 0, none⟩), .agg #[.int .i64 k, .int .u32 a, .int .u32 v]] w fun e w' => e = .returned (.tuple #[.int .u32 0, .int .i64 0]) ∧ ∃ P', RStp w r P w' P' L := by
  have H : Hid (∀ o, RBus (w.alloc o) r P L ∧ RStp w r P (w.alloc o) P L) := fun o => rboxed h o
  have hd : decide (a < 1048576) = false := decide_eq_false hin
  clear h
  subst hk
  go_enter Try.func30, Try.ntmps30
  go_wp2_with (go_at_call 49; refine (inside_any _ _).mono ?_; rw [hd]; rintro e w1 ⟨rfl, hw⟩; obtain rfl := hw.symm)
  go_ret2
  exact ⟨rfl, P, (H.out _).2⟩
set_option maxHeartbeats 1000000 in
theorem rdo_2i (r : Nat) (P : RPh) (L : Lg) (k a v : Int) (w : World) (h : RBus w r P L) (a0 : 0 ≤ a) (a1 : a ≤ 4294967295) (v0 : 0 ≤ v) (v1 : v ≤ 4294967295) (hk : k = 2) (hin : a < 1048576) : Calls Try.prog 30 #[.pointer (some ⟨r, 0, none⟩), .agg #[.int .i64 k, .int .u32 a, .int .u32 v]] w fun e w' => e = .returned (.tuple #[.int .u32 (L.M a.toNat), .int .i64 0]) ∧ ∃ P', RStp w r P w' P' L := by
  have H : Hid (∀ o, RBus (w.alloc o) r P L ∧ RStp w r P (w.alloc o) P L) := fun o => rboxed h o
  have hd : decide (a < 1048576) = true := decide_eq_true hin
  obtain ⟨n, rfl⟩ := Int.eq_ofNat_of_zero_le a0
  have hb := h.byte n (by omega)
  clear h
  subst hk
  go_enter Try.func30, Try.ntmps30
  go_wp2_with (first
    | (go_at_call 49; refine (inside_any _ _).mono ?_; rw [hd]; rintro e w1 ⟨rfl, hw⟩; obtain rfl := hw.symm)
    | (go_at_call 50; refine (byteAt_any r P L n _ (H.out _).1 (by omega)).mono ?_; rintro e w1 ⟨rfl, hw⟩; obtain rfl := hw.symm))
  go_ret2
  exact ⟨rfl, P, (H.out _).2⟩
set_option maxHeartbeats 1000000 in
theorem rdo_2o (r : Nat) (P : RPh) (L : Lg) (k a v : Int) (w : World) (h : RBus w r P L) (a0 : 0 ≤ a) (a1 : a ≤ 4294967295) (v0 : 0 ≤ v) (v1 : v ≤ 4294967295) (hk : k = 2) (hin : ¬ a < 1048576) : Calls Try.prog 30 #[.pointer (some ⟨r, 0, none⟩), .agg #[.int .i64 k, .int .u32 a, .int .u32 v]] w fun e w' => e = .returned (.tuple #[.int .u32 0, .int .i64 1]) ∧ ∃ P', RStp w r P w' P' L := by
  have H : Hid (∀ o, RBus (w.alloc o) r P L ∧ RStp w r P (w.alloc o) P L) := fun o => rboxed h o
  have hd : decide (a < 1048576) = false := decide_eq_false hin
  clear h
  subst hk
  go_enter Try.func30, Try.ntmps30
  go_wp2_with (go_at_call 49; refine (inside_any _ _).mono ?_; rw [hd]; rintro e w1 ⟨rfl, hw⟩; obtain rfl := hw.symm)
  go_ret2
  exact ⟨rfl, P, (H.out _).2⟩
set_option maxHeartbeats 1000000 in
theorem rdo_4i (r : Nat) (P : RPh) (L : Lg) (k a v : Int) (w : World) (h : RBus w r P L) (a0 : 0 ≤ a) (a1 : a ≤ 4294967295) (v0 : 0 ≤ v) (v1 : v ≤ 4294967295) (hk : k = 4) (hin : a < 1048576) : Calls Try.prog 30 #[.pointer (some ⟨r, 0, none⟩), .agg #[.int .i64 k, .int .u32 a, .int .u32 v]] w fun e w' => e = .returned (.tuple #[.int .u32 0, .int .i64 0]) ∧ ∃ P', RStp w r P w' P' { L with M := upd L.M a.toNat (v % 256) } := by
  have H : Hid (∀ o, RBus (w.alloc o) r P L ∧ RStp w r P (w.alloc o) P L) := fun o => rboxed h o
  have hd : decide (a < 1048576) = true := decide_eq_true hin
  obtain ⟨n, rfl⟩ := Int.eq_ofNat_of_zero_le a0
  clear h
  subst hk
  go_enter Try.func30, Try.ntmps30
  go_wp2_with (first
    | (go_at_call 49; refine (inside_any _ _).mono ?_; rw [hd]; rintro e w1 ⟨rfl, hw⟩; obtain rfl := hw.symm)
    | (go_at_call 51; refine (lay_any r P L n (v % 256) _ (H.out _).1 (by omega) (by omega) (by omega)).mono ?_; rintro e w1 ⟨rfl, hS⟩))
  go_ret2
  exact ⟨rfl, P, (H.out _).2.trans hS⟩
set_option maxHeartbeats 1000000 in
theorem rdo_4o (r : Nat) (P : RPh) (L : Lg) (k a v : Int) (w : World) (h : RBus w r P L) (a0 : 0 ≤ a) (a1 : a ≤ 4294967295) (v0 : 0 ≤ v) (v1 : v ≤ 4294967295) (hk : k = 4) (hin : ¬ a < 1048576) : Calls Try.prog 30 #[.pointer (some ⟨r, 0, none⟩), .agg #[.int .i64 k, .int .u32 a, .int .u32 v]] w fun e w' => e = .returned (.tuple #[.int .u32 0, .int .i64 1]) ∧ ∃ P', RStp w r P w' P' L := by
  have H : Hid (∀ o, RBus (w.alloc o) r P L ∧ RStp w r P (w.alloc o) P L) := fun o => rboxed h o
  have hd : decide (a < 1048576) = false := decide_eq_false hin
  clear h
  subst hk
  go_enter Try.func30, Try.ntmps30
  go_wp2_with (go_at_call 49; refine (inside_any _ _).mono ?_; rw [hd]; rintro e w1 ⟨rfl, hw⟩; obtain rfl := hw.symm)
  go_ret2
  exact ⟨rfl, P, (H.out _).2⟩
set_option maxHeartbeats 1000000 in
theorem rdo_1w (r : Nat) (P : RPh) (L : Lg) (k a v : Int) (w : World) (h : RBus w r P L) (a0 : 0 ≤ a) (a1 : a ≤ 4294967295) (v0 : 0 ≤ v) (v1 : v ≤ 4294967295) (hk : k = 1) (hin : a < 1048576) (h4 : a % 4 = 0) : Calls Try.prog 30 #[.pointer (some ⟨r, 0, none⟩), .agg #[.int .i64 k, .int .u32 a, .int .u32 v]] w fun e w' => e = .returned (.tuple #[.int .u32 (wordAt L.M a), .int .i64 0]) ∧ ∃ P', RStp w r P w' P' L := by
  have H : Hid (∀ o, RBus (w.alloc o) r P L ∧ RStp w r P (w.alloc o) P L) := fun o => rboxed h o
  have hd : decide (a < 1048576) = true := decide_eq_true hin
  obtain ⟨q, hq⟩ : ∃ q : Nat, a / 4 = (q : Int) := ⟨(a / 4).toNat, by omega⟩
  have i0 : (0 : Int) ≤ (q : Int) := by omega
  have i1 : (q : Int) < 262144 := by omega
  have HQ : Hid (a = ((4 * q : Nat) : Int)) := by show a = ((4 * q : Nat) : Int); omega
  have hlr := h.blt
  have hlm := h.mem.lt
  have c0 := h.eight.c0
  have cw := h.mem.at (k := q) (by omega)
  obtain ⟨cw, cf⟩ := cw
  clear h
  subst hk
  go_enter Try.func30, Try.ntmps30
  go_wp2_with (go_at_call 49; refine (inside_any _ _).mono ?_; rw [hd]; rintro e w1 ⟨rfl, hw⟩; obtain rfl := hw.symm)
  go_quiet (fail)
  go_wp2
  go_ret2
  exact ⟨ret2i (wd_word L.M q HQ.out).symm rfl, P, (H.out _).2.trans (RStp.below (H.out _).1 (drewNB _ _))⟩
set_option maxHeartbeats 1000000 in
theorem rdo_1b (r : Nat) (P : RPh) (L : Lg) (k a v : Int) (w : World) (h : RBus w r P L) (a0 : 0 ≤ a) (a1 : a ≤ 4294967295) (v0 : 0 ≤ v) (v1 : v ≤ 4294967295) (hk : k = 1) (hin : a < 1048576) (h4 : ¬ a % 4 = 0) : Calls Try.prog 30 #[.pointer (some ⟨r, 0, none⟩), .agg #[.int .i64 k, .int .u32 a, .int .u32 v]] w fun e w' => e = .returned (.tuple #[.int .u32 0, .int .i64 1]) ∧ ∃ P', RStp w r P w' P' L := by
  have H : Hid (∀ o, RBus (w.alloc o) r P L ∧ RStp w r P (w.alloc o) P L) := fun o => rboxed h o
  have hd : decide (a < 1048576) = true := decide_eq_true hin
  clear h
  subst hk
  go_enter Try.func30, Try.ntmps30
  go_wp2_with (go_at_call 49; refine (inside_any _ _).mono ?_; rw [hd]; rintro e w1 ⟨rfl, hw⟩; obtain rfl := hw.symm)
  go_ret2
  exact ⟨rfl, P, (H.out _).2⟩
set_option maxHeartbeats 1000000 in
theorem rdo_1o (r : Nat) (P : RPh) (L : Lg) (k a v : Int) (w : World) (h : RBus w r P L) (a0 : 0 ≤ a) (a1 : a ≤ 4294967295) (v0 : 0 ≤ v) (v1 : v ≤ 4294967295) (hk : k = 1) (hin : ¬ a < 1048576) : Calls Try.prog 30 #[.pointer (some ⟨r, 0, none⟩), .agg #[.int .i64 k, .int .u32 a, .int .u32 v]] w fun e w' => e = .returned (.tuple #[.int .u32 (L.dev (devN a)).1.1, .int .i64 (L.dev (devN a)).1.2]) ∧ ∃ P', RStp w r P w' P' (L.dev (devN a)).2 := by
  have H : Hid (∀ o, RBus (w.alloc o) r P L ∧ RStp w r P (w.alloc o) P L) := fun o => rboxed h o
  have hd : decide (a < 1048576) = false := decide_eq_false hin
  clear h
  subst hk
  go_enter Try.func30, Try.ntmps30
  go_wp2_with (first
    | (go_at_call 49; refine (inside_any _ _).mono ?_; rw [hd]; rintro e w1 ⟨rfl, hw⟩; obtain rfl := hw.symm)
    | (go_at_call 52; refine (rloaded_any r P L a _ (H.out _).1).mono ?_; rintro e w1 ⟨rfl, P', hS⟩))
  go_ret2
  exact ⟨rfl, P', (H.out _).2.trans hS⟩
set_option maxHeartbeats 1000000 in
theorem rdo_3w (r : Nat) (P : RPh) (L : Lg) (k a v : Int) (w : World) (h : RBus w r P L) (a0 : 0 ≤ a) (a1 : a ≤ 4294967295) (v0 : 0 ≤ v) (v1 : v ≤ 4294967295) (hk : k = 3) (hin : a < 1048576) (h4 : a % 4 = 0) : Calls Try.prog 30 #[.pointer (some ⟨r, 0, none⟩), .agg #[.int .i64 k, .int .u32 a, .int .u32 v]] w fun e w' => e = .returned (.tuple #[.int .u32 0, .int .i64 0]) ∧ ∃ P', RStp w r P w' P' { L with M := pokeM L.M a v } := by
  have H : Hid (∀ o, RBus (w.alloc o) r P L ∧ RStp w r P (w.alloc o) P L) := fun o => rboxed h o
  have hd : decide (a < 1048576) = true := decide_eq_true hin
  obtain ⟨q, hq⟩ : ∃ q : Nat, a / 4 = (q : Int) := ⟨(a / 4).toNat, by omega⟩
  have i0 : (0 : Int) ≤ (q : Int) := by omega
  have i1 : (q : Int) < 262144 := by omega
  have HQ : Hid (a = ((4 * q : Nat) : Int)) := by show a = ((4 * q : Nat) : Int); omega
  have hlr := h.blt
  have hlm := h.mem.lt
  have c0 := h.eight.c0
  have cw := h.mem.at (k := q) (by omega)
  obtain ⟨cw, cf⟩ := cw
  have HB : Hid (RBus w r P L) := h
  clear h
  subst hk
  go_enter Try.func30, Try.ntmps30
  go_wp2_with (go_at_call 49; refine (inside_any _ _).mono ?_; rw [hd]; rintro e w1 ⟨rfl, hw⟩; obtain rfl := hw.symm)
  go_region
  all_goals
    go_wp2
    go_ret2
    exact ⟨rfl, P, (rpoke_end HB.out (by omega) HQ.out v0 v1 rfl).trans (RStp.below (rpoke_end HB.out (by omega) HQ.out v0 v1 rfl).bus (((Below.refl _ _).alloc (Nat.le_refl _) _).drew))⟩
set_option maxHeartbeats 1000000 in
theorem rdo_3b (r : Nat) (P : RPh) (L : Lg) (k a v : Int) (w : World) (h : RBus w r P L) (a0 : 0 ≤ a) (a1 : a ≤ 4294967295) (v0 : 0 ≤ v) (v1 : v ≤ 4294967295) (hk : k = 3) (hin : a < 1048576) (h4 : ¬ a % 4 = 0) : Calls Try.prog 30 #[.pointer (some ⟨r, 0, none⟩), .agg #[.int .i64 k, .int .u32 a, .int .u32 v]] w fun e w' => e = .returned (.tuple #[.int .u32 0, .int .i64 1]) ∧ ∃ P', RStp w r P w' P' L := by
  have H : Hid (∀ o, RBus (w.alloc o) r P L ∧ RStp w r P (w.alloc o) P L) := fun o => rboxed h o
  have hd : decide (a < 1048576) = true := decide_eq_true hin
  clear h
  subst hk
  go_enter Try.func30, Try.ntmps30
  go_wp2_with (go_at_call 49; refine (inside_any _ _).mono ?_; rw [hd]; rintro e w1 ⟨rfl, hw⟩; obtain rfl := hw.symm)
  go_ret2
  exact ⟨rfl, P, (H.out _).2⟩
set_option maxHeartbeats 1000000 in
theorem rdo_3o (r : Nat) (P : RPh) (L : Lg) (k a v : Int) (w : World) (h : RBus w r P L) (a0 : 0 ≤ a) (a1 : a ≤ 4294967295) (v0 : 0 ≤ v) (v1 : v ≤ 4294967295) (hk : k = 3) (hin : ¬ a < 1048576) : Calls Try.prog 30 #[.pointer (some ⟨r, 0, none⟩), .agg #[.int .i64 k, .int .u32 a, .int .u32 v]] w fun e w' => e = .returned (.tuple #[.int .u32 0, .int .i64 (L.into v (devN a)).1]) ∧ ∃ P', RStp w r P w' P' (L.into v (devN a)).2 := by
  have H : Hid (∀ o, RBus (w.alloc o) r P L ∧ RStp w r P (w.alloc o) P L) := fun o => rboxed h o
  have hd : decide (a < 1048576) = false := decide_eq_false hin
  clear h
  subst hk
  go_enter Try.func30, Try.ntmps30
  go_wp2_with (first
    | (go_at_call 49; refine (inside_any _ _).mono ?_; rw [hd]; rintro e w1 ⟨rfl, hw⟩; obtain rfl := hw.symm)
    | (go_at_call 53; refine (rstored_any r P L a v _ (H.out _).1 v0 v1).mono ?_; rintro e w1 ⟨rfl, P', hS⟩))
  go_ret2
  exact ⟨rfl, P', (H.out _).2.trans hS⟩
set_option maxHeartbeats 1000000 in
theorem rdo_5i (r : Nat) (P : RPh) (L : Lg) (k a v : Int) (w : World) (h : RBus w r P L) (a0 : 0 ≤ a) (a1 : a ≤ 4294967295) (v0 : 0 ≤ v) (v1 : v ≤ 4294967295) (k0 : ¬ k = 0) (k1 : ¬ k = 1) (k2 : ¬ k = 2) (k3 : ¬ k = 3) (k4 : ¬ k = 4) (hin : a < 1048576) : Calls Try.prog 30 #[.pointer (some ⟨r, 0, none⟩), .agg #[.int .i64 k, .int .u32 a, .int .u32 v]] w fun e w' => e = .returned (.tuple #[.int .u32 0, .int .i64 1]) ∧ ∃ P', RStp w r P w' P' L := by
  have H : Hid (∀ o, RBus (w.alloc o) r P L ∧ RStp w r P (w.alloc o) P L) := fun o => rboxed h o
  have hd : decide (a < 1048576) = true := decide_eq_true hin
  clear h
  go_enter Try.func30, Try.ntmps30
  go_wp2_with (go_at_call 49; refine (inside_any _ _).mono ?_; rw [hd]; rintro e w1 ⟨rfl, hw⟩; obtain rfl := hw.symm)
  go_ret2
  exact ⟨rfl, P, (H.out _).2⟩
set_option maxHeartbeats 1000000 in
theorem rdo_5o (r : Nat) (P : RPh) (L : Lg) (k a v : Int) (w : World) (h : RBus w r P L) (a0 : 0 ≤ a) (a1 : a ≤ 4294967295) (v0 : 0 ≤ v) (v1 : v ≤ 4294967295) (k0 : ¬ k = 0) (k1 : ¬ k = 1) (k2 : ¬ k = 2) (k3 : ¬ k = 3) (k4 : ¬ k = 4) (hin : ¬ a < 1048576) : Calls Try.prog 30 #[.pointer (some ⟨r, 0, none⟩), .agg #[.int .i64 k, .int .u32 a, .int .u32 v]] w fun e w' => e = .returned (.tuple #[.int .u32 0, .int .i64 1]) ∧ ∃ P', RStp w r P w' P' L := by
  have H : Hid (∀ o, RBus (w.alloc o) r P L ∧ RStp w r P (w.alloc o) P L) := fun o => rboxed h o
  have hd : decide (a < 1048576) = false := decide_eq_false hin
  clear h
  go_enter Try.func30, Try.ntmps30
  go_wp2_with (go_at_call 49; refine (inside_any _ _).mono ?_; rw [hd]; rintro e w1 ⟨rfl, hw⟩; obtain rfl := hw.symm)
  go_ret2
  exact ⟨rfl, P, (H.out _).2⟩
theorem rdo_any (r : Nat) (P : RPh) (L : Lg) (k a v : Int) (w : World) (h : RBus w r P L) (a0 : 0 ≤ a) (a1 : a ≤ 4294967295) (v0 : 0 ≤ v) (v1 : v ≤ 4294967295) : Calls Try.prog 30 #[.pointer (some ⟨r, 0, none⟩), .agg #[.int .i64 k, .int .u32 a, .int .u32 v]] w fun e w' => e = .returned (.tuple #[.int .u32 (L.step k a v).1.1, .int .i64 (L.step k a v).1.2]) ∧ ∃ P', RStp w r P w' P' (L.step k a v).2 := by
  have wno : ¬ a < 1048576 → isW a = false := fun hh => isW_no (by omega)
  have wyes : a < 1048576 → a % 4 = 0 → isW a = true := fun h1 h2 => by unfold isW; exact decide_eq_true ⟨h2, h1⟩
  have wbad : ¬ a % 4 = 0 → isW a = false := fun hh => by unfold isW; exact decide_eq_false (fun e => hh e.1)
  unfold Lg.step
  by_cases k0 : k = 0
  · rw [if_pos k0]
    by_cases hin : a < 1048576
    · exact rdo_0i r P L k a v w h a0 a1 v0 v1 k0 hin
    · exact rdo_0o r P L k a v w h a0 a1 v0 v1 k0 hin
  rw [if_neg k0]
  by_cases k1 : k = 1
  · rw [if_pos k1]
    unfold Lg.load
    by_cases hin : a < 1048576
    · by_cases h4 : a % 4 = 0
      · rw [if_pos (wyes hin h4)]; exact rdo_1w r P L k a v w h a0 a1 v0 v1 k1 hin h4
      · rw [wbad h4, if_neg (by decide), dev_in hin]; exact rdo_1b r P L k a v w h a0 a1 v0 v1 k1 hin h4
    · rw [wno hin, if_neg (by decide)]; exact rdo_1o r P L k a v w h a0 a1 v0 v1 k1 hin
  rw [if_neg k1]
  by_cases k2 : k = 2
  · rw [if_pos k2]
    unfold Lg.ldb
    by_cases hin : a < 1048576
    · rw [if_pos hin]; exact rdo_2i r P L k a v w h a0 a1 v0 v1 k2 hin
    · rw [if_neg hin]; exact rdo_2o r P L k a v w h a0 a1 v0 v1 k2 hin
  rw [if_neg k2]
  by_cases k3 : k = 3
  · rw [if_pos k3]
    unfold Lg.store
    by_cases hin : a < 1048576
    · by_cases h4 : a % 4 = 0
      · rw [if_pos (wyes hin h4)]; exact rdo_3w r P L k a v w h a0 a1 v0 v1 k3 hin h4
      · rw [wbad h4, if_neg (by decide), dev_in hin]; exact rdo_3b r P L k a v w h a0 a1 v0 v1 k3 hin h4
    · rw [wno hin, if_neg (by decide)]; exact rdo_3o r P L k a v w h a0 a1 v0 v1 k3 hin
  rw [if_neg k3]
  by_cases k4 : k = 4
  · rw [if_pos k4]
    unfold Lg.stb
    by_cases hin : a < 1048576
    · rw [if_pos hin]; exact rdo_4i r P L k a v w h a0 a1 v0 v1 k4 hin
    · rw [if_neg hin]; exact rdo_4o r P L k a v w h a0 a1 v0 v1 k4 hin
  rw [if_neg k4]
  by_cases hin : a < 1048576
  · exact rdo_5i r P L k a v w h a0 a1 v0 v1 k0 k1 k2 k3 k4 hin
  · exact rdo_5o r P L k a v w h a0 a1 v0 v1 k0 k1 k2 k3 k4 hin
end Go.Proofs.Ytbkkjnafnckleaa
