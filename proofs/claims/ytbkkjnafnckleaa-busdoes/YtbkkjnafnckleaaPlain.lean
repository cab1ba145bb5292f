/-
  The short calls of a bus.
-/
import Derived.Test.YtbkkjnafnckleaaBus
namespace Go.Proofs.Ytbkkjnafnckleaa
open Go.ChangeShapes Go.WideShapes Go.ChangeAt Go.RowKit
attribute [local go_sem ↓] loadSec_seal storeSec_seal eqlSec_seal zeroSec
attribute [local go_sem] loadSec_run storeSec_run rowAt_at rowAt_old rowAt_drew rowAt_drewN roomSec_new roomAt_old roomAt_drew roomAt_drewN putSec_new putRow_past rowSec_put size_put putRow_drew putRow_drewN alloc_drewN setCell_drewN sec_size

set_option linter.unusedVariables false

theorem isMemory_any (b : Nat) (P : Ph) (L : Lg) (a : Int) (w : World) (h : Bus w b P L) (a0 : 0 ≤ a) (a1 : a ≤ 4294967295) : Calls Try.prog 69 #[.pointer (some ⟨b, 0, none⟩), .int .u32 a] w fun e w' => e = .returned (.bool (decide (a < 1048576))) ∧ w' = w := by
  have c0 := h.nine.c0
  clear h
  go_enter Try.func69, Try.ntmps69
  go_wp2
  go_ret
  exact ⟨rfl, rfl⟩
theorem status_any (b : Nat) (P : Ph) (L : Lg) (w : World) (h : Bus w b P L) : Calls Try.prog 59 #[.pointer (some ⟨b, 0, none⟩)] w fun e w' => e = .returned (.tuple #[.int .u32 (if L.I = [] then 2 else 3), .int .i64 0]) ∧ w' = w := by
  have c0 := h.nine.c3
  clear h
  rcases hL : L.I with _ | ⟨x, r⟩
  · rw [hL] at c0
    go_enter Try.func59, Try.ntmps59
    go_wp2
    go_ret2
    exact ⟨rfl, rfl⟩
  · rw [hL] at c0
    have h0 : (0 : Int) < ((x :: r).length : Int) := by simp
    go_enter Try.func59, Try.ntmps59
    go_wp2
    go_ret2
    exact ⟨rfl, rfl⟩
theorem waiting_any (b : Nat) (P : Ph) (L : Lg) (w : World) (h : Bus w b P L) : Calls Try.prog 21 #[.pointer (some ⟨b, 0, none⟩)] w fun e w' => e = .returned (.int .i64 L.I.length) ∧ w' = w := by
  have c0 := h.nine.c3
  clear h
  go_enter Try.func21, Try.ntmps21
  go_wp2
  go_ret
  exact ⟨rfl, rfl⟩
theorem disk_any (b : Nat) (P : Ph) (L : Lg) (w : World) (h : Bus w b P L) : Calls Try.prog 13 #[.pointer (some ⟨b, 0, none⟩)] w fun e w' => e = .returned (.pointer (some ⟨P.db, 0, none⟩)) ∧ w' = w := by
  have c0 := h.nine.c1
  clear h
  go_enter Try.func13, Try.ntmps13
  go_wp2
  go_ret
  exact ⟨rfl, rfl⟩
theorem wrapU (x : Int) : IntKind.u32.wrap x = x % 4294967296 := wrap_u32 x
theorem tick_any (b : Nat) (P : Ph) (L : Lg) (v : Int) (w : World) (h : Bus w b P L) (v0 : 0 ≤ v) (v1 : v ≤ 4294967295) : Calls Try.prog 27 #[.pointer (some ⟨b, 0, none⟩), .int .u32 v] w fun e w' => e = .returned (.tuple #[]) ∧ Stp w b P w' P { L with tk := (L.tk + v) % 4294967296 } := by
  have c0 := h.nine.c5
  have f0 := h.free (j := 5) (by omega)
  have H : Hid _ := h
  have t0 := h.tk.1
  have t1 := h.tk.2
  clear h
  go_enter Try.func27, Try.ntmps27
  go_wp2
  go_end0
  exact ⟨rfl, Stp.put H.out (show Core w b P { L with tk := (L.tk + v) % 4294967296 } from { H.out.toCore with tk := by unfold U32; simp only []; omega }) 5 _ rfl⟩
theorem cap_cell {w : World} {b : Nat} {P : Ph} {L : Lg} (h : Bus w b P L) : w.cell? ⟨P.cb, 0, none⟩ = some (.pointer (some ⟨b, 0, none⟩)) := rowAt_cell h.cap 0
theorem timer_any (b : Nat) (P : Ph) (L : Lg) (w : World) (h : Bus w b P L) : Calls Try.prog 56 #[.pointer (some ⟨P.cb, 0, none⟩)] w fun e w' => e = .returned (.tuple #[.int .u32 L.tk, .int .i64 0]) ∧ w' = w := by
  have c0 := cap_cell h
  have c5 := h.nine.c5
  clear h
  go_enter Try.func56, Try.ntmps56
  go_wp2
  go_ret2
  exact ⟨rfl, rfl⟩
theorem sector_any (b : Nat) (P : Ph) (L : Lg) (w : World) (h : Bus w b P L) : Calls Try.prog 60 #[.pointer (some ⟨P.cb, 0, none⟩)] w fun e w' => e = .returned (.tuple #[.int .u32 L.sc, .int .i64 0]) ∧ w' = w := by
  have c0 := cap_cell h
  have c5 := h.nine.c6
  clear h
  go_enter Try.func60, Try.ntmps60
  go_wp2
  go_ret2
  exact ⟨rfl, rfl⟩
theorem address_any (b : Nat) (P : Ph) (L : Lg) (w : World) (h : Bus w b P L) : Calls Try.prog 62 #[.pointer (some ⟨P.cb, 0, none⟩)] w fun e w' => e = .returned (.tuple #[.int .u32 L.ad, .int .i64 0]) ∧ w' = w := by
  have c0 := cap_cell h
  have c5 := h.nine.c7
  clear h
  go_enter Try.func62, Try.ntmps62
  go_wp2
  go_ret2
  exact ⟨rfl, rfl⟩
theorem commandL_any (b : Nat) (P : Ph) (L : Lg) (w : World) (h : Bus w b P L) : Calls Try.prog 64 #[.pointer (some ⟨P.cb, 0, none⟩)] w fun e w' => e = .returned (.tuple #[.int .u32 L.cm, .int .i64 0]) ∧ w' = w := by
  have c0 := cap_cell h
  have c5 := h.nine.c8
  clear h
  go_enter Try.func64, Try.ntmps64
  go_wp2
  go_ret2
  exact ⟨rfl, rfl⟩
theorem secs_any (b : Nat) (D : Dk) (w : World) (h : Rep w b D) : Calls Try.prog 67 #[.pointer (some ⟨b, 0, none⟩)] w fun e w' => e = .returned (.int .i64 D.n) ∧ w' = w := by
  have c0 := (h.cell 1).trans D.at1
  clear h
  go_enter Try.func67, Try.ntmps67
  go_wp2
  go_ret
  exact ⟨rfl, rfl⟩
theorem sectors_any (b : Nat) (P : Ph) (L : Lg) (w : World) (h : Bus w b P L) : Calls Try.prog 66 #[.pointer (some ⟨P.cb, 0, none⟩)] w fun e w' => e = .returned (.tuple #[.int .u32 L.n, .int .i64 0]) ∧ w' = w := by
  have c0 := cap_cell h
  have c5 := h.nine.c1
  have H : Hid (Bus w b P L) := h
  have n1 := h.dsk.n1
  have HN : Hid (P.D.n = L.n) := h.dn
  clear h
  go_enter Try.func66, Try.ntmps66
  go_wp2_with (go_at_call 67; refine (secs_any P.db P.D _ H.out.dsk).mono ?_; rintro e w1 ⟨rfl, hw⟩; obtain rfl := hw.symm)
  go_ret2
  exact ⟨by rw [← HN.out]; rfl, rfl⟩
theorem setSector_any (b : Nat) (P : Ph) (L : Lg) (v : Int) (w : World) (h : Bus w b P L) (v0 : 0 ≤ v) (v1 : v ≤ 4294967295) : Calls Try.prog 61 #[.int .u32 v, .pointer (some ⟨P.cb, 0, none⟩)] w fun e w' => e = .returned (.tuple #[]) ∧ Stp w b P w' P { L with sc := v } := by
  have c0 := cap_cell h
  have c5 := h.nine.c6
  have f0 := h.free (j := 6) (by omega)
  have H : Hid (Bus w b P L) := h
  clear h
  go_enter Try.func61, Try.ntmps61
  go_wp2
  go_end0
  exact ⟨rfl, Stp.put H.out (show Core w b P { L with sc := v } from { H.out.toCore with sc := ⟨v0, v1⟩ }) 6 _ rfl⟩
theorem setAddress_any (b : Nat) (P : Ph) (L : Lg) (v : Int) (w : World) (h : Bus w b P L) (v0 : 0 ≤ v) (v1 : v ≤ 4294967295) : Calls Try.prog 63 #[.int .u32 v, .pointer (some ⟨P.cb, 0, none⟩)] w fun e w' => e = .returned (.tuple #[]) ∧ Stp w b P w' P { L with ad := v } := by
  have c0 := cap_cell h
  have c5 := h.nine.c7
  have f0 := h.free (j := 7) (by omega)
  have H : Hid (Bus w b P L) := h
  clear h
  go_enter Try.func63, Try.ntmps63
  go_wp2
  go_end0
  exact ⟨rfl, Stp.put H.out (show Core w b P { L with ad := v } from { H.out.toCore with ad := ⟨v0, v1⟩ }) 7 _ rfl⟩
end Go.Proofs.Ytbkkjnafnckleaa
