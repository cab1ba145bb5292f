/-
  A word is stored, into memory or into a device; every access.
  Every access.
-/
import Derived.Test.YteegkhnikcioiaaGreatDoorMLoad
namespace Go.Proofs.YteegkhnikcioiaaGreatDoor
open Go.ChangeShapes Go.WideShapes Go.ChangeAt Go.RowKit
attribute [local go_sem ↓] loadSec_seal storeSec_seal eqlSec_seal zeroSec
attribute [local go_sem] loadSec_run storeSec_run rowAt_at rowAt_old rowAt_drew rowAt_drewN roomSec_new roomAt_old roomAt_drew roomAt_drewN putSec_new putRow_past rowSec_put size_put putRow_drew putRow_drewN alloc_drewN setCell_drewN sec_size

set_option linter.unusedVariables false

/-- How the store of a word ends, and what is held behind it. -/
def Lg.into (L : Lg) (v : Int) : Nat → Int × Lg
  | 1 => (0, if L.O.length < 65536 then { L with O := L.O ++ [v % 256] } else L)
  | 3 => (0, { L with sc := v })
  | 4 => (0, { L with ad := v })
  | 5 => (0, L.obeyed v)
  | _ => (1, L)
def Lg.store (L : Lg) (a v : Int) : Int × Lg := if isW a then (0, { L with M := pokeM L.M a v }) else L.into v (devN a)
theorem storeWord_mem (b : Nat) (P : Ph) (L : Lg) (a v : Int) (w : World) (h : Bus w b P L) (a0 : 0 ≤ a) (a1 : a ≤ 4294967295) (hw : isW a = true) : Calls Tryz.prog 103 #[.pointer (some ⟨b, 0, none⟩), .int .u32 a, .int .u32 v] w fun e w' => e = .returned (.int .i64 0) ∧ ∃ P', Stp w b P w' P' { L with M := pokeM L.M a v } := by
  have H : Hid (Bus w b P L) := h
  clear h
  go_enter Tryz.func103, Tryz.ntmps103
  go_wp2_with (go_at_call 109; refine (poke_any b P L a v _ H.out a0 a1).mono ?_; rw [hw]; rintro e w1 ⟨rfl, hS⟩)
  go_ret
  exact ⟨rfl, P, hS⟩
set_option maxHeartbeats 1000000 in
theorem storeWord_0 (b : Nat) (P : Ph) (L : Lg) (a v : Int) (w : World) (h : Bus w b P L) (a0 : 0 ≤ a) (a1 : a ≤ 4294967295) (v0 : 0 ≤ v) (v1 : v ≤ 4294967295) (hw : isW a = false) (hk : devN a = 0) : Calls Tryz.prog 103 #[.pointer (some ⟨b, 0, none⟩), .int .u32 a, .int .u32 v] w fun e w' => e = .returned (.int .i64 1) ∧ ∃ P', Stp w b P w' P' L := by
  have H : Hid (Bus w b P L) := h
  have HP : Hid (pokeM L.M a v = L.M) := by show pokeM L.M a v = L.M; unfold pokeM; rw [hw]; rfl
  have q1 := field_store
  have q2 := neq_store
  have q3 := neq_storen
  clear h
  go_enter Tryz.func103, Tryz.ntmps103
  go_wp2_with (first
    | (go_at_call 109; refine (poke_any b P L a v _ H.out a0 a1).mono ?_; rw [hw]; rintro e w1 ⟨rfl, hS⟩; have HS : Hid (Stp w b P w1 P L) := by { rw [HP.out] at hS; exact hS }; clear hS)
    | (go_at_call 129; refine (dev_0 b P L a _ HS.out.bus hk).mono ?_; rintro e w2 ⟨rfl, hb⟩; have HS2 : Hid (Stp w b P w2 P L) := HS.out.trans (Stp.below HS.out.bus hb); clear hb HS))
  go_ret
  exact ⟨rfl, P, HS2.out⟩
set_option maxHeartbeats 1000000 in
theorem storeWord_2 (b : Nat) (P : Ph) (L : Lg) (a v : Int) (w : World) (h : Bus w b P L) (a0 : 0 ≤ a) (a1 : a ≤ 4294967295) (v0 : 0 ≤ v) (v1 : v ≤ 4294967295) (hw : isW a = false) (hk : devN a = 2) : Calls Tryz.prog 103 #[.pointer (some ⟨b, 0, none⟩), .int .u32 a, .int .u32 v] w fun e w' => e = .returned (.int .i64 1) ∧ ∃ P', Stp w b P w' P' L := by
  have H : Hid (Bus w b P L) := h
  have HP : Hid (pokeM L.M a v = L.M) := by show pokeM L.M a v = L.M; unfold pokeM; rw [hw]; rfl
  have q1 := field_store
  have q2 := neq_store
  have q3 := neq_storen
  clear h
  go_enter Tryz.func103, Tryz.ntmps103
  go_wp2_with (first
    | (go_at_call 109; refine (poke_any b P L a v _ H.out a0 a1).mono ?_; rw [hw]; rintro e w1 ⟨rfl, hS⟩; have HS : Hid (Stp w b P w1 P L) := by { rw [HP.out] at hS; exact hS }; clear hS)
    | (go_at_call 129; refine (dev_2 b P L a _ HS.out.bus hk).mono ?_; rintro e w2 ⟨rfl, hb⟩; have HS2 : Hid (Stp w b P w2 P L) := HS.out.trans (Stp.below HS.out.bus hb); clear hb HS))
  go_ret
  exact ⟨rfl, P, HS2.out⟩
set_option maxHeartbeats 1000000 in
theorem storeWord_6 (b : Nat) (P : Ph) (L : Lg) (a v : Int) (w : World) (h : Bus w b P L) (a0 : 0 ≤ a) (a1 : a ≤ 4294967295) (v0 : 0 ≤ v) (v1 : v ≤ 4294967295) (hw : isW a = false) (hk : devN a = 6) : Calls Tryz.prog 103 #[.pointer (some ⟨b, 0, none⟩), .int .u32 a, .int .u32 v] w fun e w' => e = .returned (.int .i64 1) ∧ ∃ P', Stp w b P w' P' L := by
  have H : Hid (Bus w b P L) := h
  have HP : Hid (pokeM L.M a v = L.M) := by show pokeM L.M a v = L.M; unfold pokeM; rw [hw]; rfl
  have q1 := field_store
  have q2 := neq_store
  have q3 := neq_storen
  clear h
  go_enter Tryz.func103, Tryz.ntmps103
  go_wp2_with (first
    | (go_at_call 109; refine (poke_any b P L a v _ H.out a0 a1).mono ?_; rw [hw]; rintro e w1 ⟨rfl, hS⟩; have HS : Hid (Stp w b P w1 P L) := by { rw [HP.out] at hS; exact hS }; clear hS)
    | (go_at_call 129; refine (dev_6 b P L a _ HS.out.bus hk).mono ?_; rintro e w2 ⟨rfl, hb⟩; have HS2 : Hid (Stp w b P w2 P L) := HS.out.trans (Stp.below HS.out.bus hb); clear hb HS))
  go_ret
  exact ⟨rfl, P, HS2.out⟩
set_option maxHeartbeats 1000000 in
theorem storeWord_7 (b : Nat) (P : Ph) (L : Lg) (a v : Int) (w : World) (h : Bus w b P L) (a0 : 0 ≤ a) (a1 : a ≤ 4294967295) (v0 : 0 ≤ v) (v1 : v ≤ 4294967295) (hw : isW a = false) (hk : devN a = 7) : Calls Tryz.prog 103 #[.pointer (some ⟨b, 0, none⟩), .int .u32 a, .int .u32 v] w fun e w' => e = .returned (.int .i64 1) ∧ ∃ P', Stp w b P w' P' L := by
  have H : Hid (Bus w b P L) := h
  have HP : Hid (pokeM L.M a v = L.M) := by show pokeM L.M a v = L.M; unfold pokeM; rw [hw]; rfl
  have q1 := field_store
  have q2 := neq_store
  have q3 := neq_storen
  clear h
  go_enter Tryz.func103, Tryz.ntmps103
  go_wp2_with (first
    | (go_at_call 109; refine (poke_any b P L a v _ H.out a0 a1).mono ?_; rw [hw]; rintro e w1 ⟨rfl, hS⟩; have HS : Hid (Stp w b P w1 P L) := by { rw [HP.out] at hS; exact hS }; clear hS)
    | (go_at_call 129; refine (dev_7 b P L a _ HS.out.bus hk).mono ?_; rintro e w2 ⟨rfl, hb⟩; have HS2 : Hid (Stp w b P w2 P L) := HS.out.trans (Stp.below HS.out.bus hb); clear hb HS))
  go_ret
  exact ⟨rfl, P, HS2.out⟩
set_option maxHeartbeats 1000000 in
theorem storeWord_1e (b : Nat) (P : Ph) (L : Lg) (a v : Int) (w : World) (h : Bus w b P L) (a0 : 0 ≤ a) (a1 : a ≤ 4294967295) (v0 : 0 ≤ v) (v1 : v ≤ 4294967295) (hw : isW a = false) (hk : devN a = 1) (hO : 65536 ≤ L.O.length) : Calls Tryz.prog 103 #[.pointer (some ⟨b, 0, none⟩), .int .u32 a, .int .u32 v] w fun e w' => e = .returned (.int .i64 0) ∧ ∃ P', Stp w b P w' P' L := by
  have H : Hid (Bus w b P L) := h
  have HP : Hid (pokeM L.M a v = L.M) := by show pokeM L.M a v = L.M; unfold pokeM; rw [hw]; rfl
  have q1 := field_store
  have q2 := neq_store
  have q3 := neq_storen
  clear h
  go_enter Tryz.func103, Tryz.ntmps103
  go_wp2_with (first
    | (go_at_call 109; refine (poke_any b P L a v _ H.out a0 a1).mono ?_; rw [hw]; rintro e w1 ⟨rfl, hS⟩; have HS : Hid (Stp w b P w1 P L) := by { rw [HP.out] at hS; exact hS }; clear hS)
    | (go_at_call 129; refine (dev_1 b P L a _ HS.out.bus hk).mono ?_; rintro e w2 ⟨rfl, hb⟩; have HS2 : Hid (Stp w b P w2 P L) := HS.out.trans (Stp.below HS.out.bus hb); clear hb HS)
    | (go_at_call 73; refine (putOut_full b P L v _ HS2.out.bus hO).mono ?_; rintro e w3 ⟨rfl, hw3⟩; obtain rfl := hw3.symm))
  go_ret
  exact ⟨rfl, P, HS2.out⟩
set_option maxHeartbeats 1000000 in
theorem storeWord_1f (b : Nat) (P : Ph) (L : Lg) (a v : Int) (w : World) (h : Bus w b P L) (a0 : 0 ≤ a) (a1 : a ≤ 4294967295) (v0 : 0 ≤ v) (v1 : v ≤ 4294967295) (hw : isW a = false) (hk : devN a = 1) (hO : L.O.length < 65536) : Calls Tryz.prog 103 #[.pointer (some ⟨b, 0, none⟩), .int .u32 a, .int .u32 v] w fun e w' => e = .returned (.int .i64 0) ∧ ∃ P', Stp w b P w' P' { L with O := L.O ++ [v % 256] } := by
  have H : Hid (Bus w b P L) := h
  have HP : Hid (pokeM L.M a v = L.M) := by show pokeM L.M a v = L.M; unfold pokeM; rw [hw]; rfl
  have q1 := field_store
  have q2 := neq_store
  have q3 := neq_storen
  clear h
  go_enter Tryz.func103, Tryz.ntmps103
  go_wp2_with (first
    | (go_at_call 109; refine (poke_any b P L a v _ H.out a0 a1).mono ?_; rw [hw]; rintro e w1 ⟨rfl, hS⟩; have HS : Hid (Stp w b P w1 P L) := by { rw [HP.out] at hS; exact hS }; clear hS)
    | (go_at_call 129; refine (dev_1 b P L a _ HS.out.bus hk).mono ?_; rintro e w2 ⟨rfl, hb⟩; have HS2 : Hid (Stp w b P w2 P L) := HS.out.trans (Stp.below HS.out.bus hb); clear hb HS)
    | (go_at_call 73; refine (putOut_ok b P L v _ HS2.out.bus hO).mono ?_; rintro e w3 ⟨rfl, P', hS⟩))
  go_ret
  exact ⟨rfl, P', HS2.out.trans hS⟩
set_option maxHeartbeats 1000000 in
theorem storeWord_3 (b : Nat) (P : Ph) (L : Lg) (a v : Int) (w : World) (h : Bus w b P L) (a0 : 0 ≤ a) (a1 : a ≤ 4294967295) (v0 : 0 ≤ v) (v1 : v ≤ 4294967295) (hw : isW a = false) (hk : devN a = 3) : Calls Tryz.prog 103 #[.pointer (some ⟨b, 0, none⟩), .int .u32 a, .int .u32 v] w fun e w' => e = .returned (.int .i64 0) ∧ ∃ P', Stp w b P w' P' { L with sc := v } := by
  have H : Hid (Bus w b P L) := h
  have HP : Hid (pokeM L.M a v = L.M) := by show pokeM L.M a v = L.M; unfold pokeM; rw [hw]; rfl
  have q1 := field_store
  have q2 := neq_store
  have q3 := neq_storen
  clear h
  go_enter Tryz.func103, Tryz.ntmps103
  go_wp2_with (first
    | (go_at_call 109; refine (poke_any b P L a v _ H.out a0 a1).mono ?_; rw [hw]; rintro e w1 ⟨rfl, hS⟩; have HS : Hid (Stp w b P w1 P L) := by { rw [HP.out] at hS; exact hS }; clear hS)
    | (go_at_call 129; refine (dev_3 b P L a _ HS.out.bus hk).mono ?_; rintro e w2 ⟨rfl, hb⟩; have HS2 : Hid (Stp w b P w2 P L) := HS.out.trans (Stp.below HS.out.bus hb); clear hb HS)
    | (go_at_call 76; refine (setSector_any b P L v _ HS2.out.bus v0 v1).mono ?_; rintro e w3 ⟨rfl, hS⟩))
  go_ret
  exact ⟨rfl, P, HS2.out.trans hS⟩
set_option maxHeartbeats 1000000 in
theorem storeWord_4 (b : Nat) (P : Ph) (L : Lg) (a v : Int) (w : World) (h : Bus w b P L) (a0 : 0 ≤ a) (a1 : a ≤ 4294967295) (v0 : 0 ≤ v) (v1 : v ≤ 4294967295) (hw : isW a = false) (hk : devN a = 4) : Calls Tryz.prog 103 #[.pointer (some ⟨b, 0, none⟩), .int .u32 a, .int .u32 v] w fun e w' => e = .returned (.int .i64 0) ∧ ∃ P', Stp w b P w' P' { L with ad := v } := by
  have H : Hid (Bus w b P L) := h
  have HP : Hid (pokeM L.M a v = L.M) := by show pokeM L.M a v = L.M; unfold pokeM; rw [hw]; rfl
  have q1 := field_store
  have q2 := neq_store
  have q3 := neq_storen
  clear h
  go_enter Tryz.func103, Tryz.ntmps103
  go_wp2_with (first
    | (go_at_call 109; refine (poke_any b P L a v _ H.out a0 a1).mono ?_; rw [hw]; rintro e w1 ⟨rfl, hS⟩; have HS : Hid (Stp w b P w1 P L) := by { rw [HP.out] at hS; exact hS }; clear hS)
    | (go_at_call 129; refine (dev_4 b P L a _ HS.out.bus hk).mono ?_; rintro e w2 ⟨rfl, hb⟩; have HS2 : Hid (Stp w b P w2 P L) := HS.out.trans (Stp.below HS.out.bus hb); clear hb HS)
    | (go_at_call 78; refine (setAddress_any b P L v _ HS2.out.bus v0 v1).mono ?_; rintro e w3 ⟨rfl, hS⟩))
  go_ret
  exact ⟨rfl, P, HS2.out.trans hS⟩
set_option maxHeartbeats 1000000 in
theorem storeWord_5 (b : Nat) (P : Ph) (L : Lg) (a v : Int) (w : World) (h : Bus w b P L) (a0 : 0 ≤ a) (a1 : a ≤ 4294967295) (v0 : 0 ≤ v) (v1 : v ≤ 4294967295) (hw : isW a = false) (hk : devN a = 5) : Calls Tryz.prog 103 #[.pointer (some ⟨b, 0, none⟩), .int .u32 a, .int .u32 v] w fun e w' => e = .returned (.int .i64 0) ∧ ∃ P', Stp w b P w' P' (L.obeyed v) := by
  have H : Hid (Bus w b P L) := h
  have HP : Hid (pokeM L.M a v = L.M) := by show pokeM L.M a v = L.M; unfold pokeM; rw [hw]; rfl
  have q1 := field_store
  have q2 := neq_store
  have q3 := neq_storen
  clear h
  go_enter Tryz.func103, Tryz.ntmps103
  go_wp2_with (first
    | (go_at_call 109; refine (poke_any b P L a v _ H.out a0 a1).mono ?_; rw [hw]; rintro e w1 ⟨rfl, hS⟩; have HS : Hid (Stp w b P w1 P L) := by { rw [HP.out] at hS; exact hS }; clear hS)
    | (go_at_call 129; refine (dev_5 b P L a _ HS.out.bus hk).mono ?_; rintro e w2 ⟨rfl, hb⟩; have HS2 : Hid (Stp w b P w2 P L) := HS.out.trans (Stp.below HS.out.bus hb); clear hb HS)
    | (go_at_call 80; refine (obey_any b P L v _ HS2.out.bus).mono ?_; rintro e w3 ⟨rfl, P', hS⟩))
  go_ret
  exact ⟨rfl, P', HS2.out.trans hS⟩
theorem storeWord_any (b : Nat) (P : Ph) (L : Lg) (a v : Int) (w : World) (h : Bus w b P L) (a0 : 0 ≤ a) (a1 : a ≤ 4294967295) (v0 : 0 ≤ v) (v1 : v ≤ 4294967295) : Calls Tryz.prog 103 #[.pointer (some ⟨b, 0, none⟩), .int .u32 a, .int .u32 v] w fun e w' => e = .returned (.int .i64 (L.store a v).1) ∧ ∃ P', Stp w b P w' P' (L.store a v).2 := by
  unfold Lg.store
  by_cases hw : isW a = true
  · rw [if_pos hw]; exact storeWord_mem b P L a v w h a0 a1 hw
  · rw [if_neg hw]
    have hw : isW a = false := by simpa using hw
    have h7 := devN_le a
    have hk : devN a = 0 ∨ devN a = 1 ∨ devN a = 2 ∨ devN a = 3 ∨ devN a = 4 ∨ devN a = 5 ∨ devN a = 6 ∨ devN a = 7 := by omega
    rcases hk with hk | hk | hk | hk | hk | hk | hk | hk <;> rw [hk]
    · exact storeWord_0 b P L a v w h a0 a1 v0 v1 hw hk
    · unfold Lg.into
      by_cases hO : L.O.length < 65536
      · rw [if_pos hO]; exact storeWord_1f b P L a v w h a0 a1 v0 v1 hw hk hO
      · rw [if_neg hO]; exact storeWord_1e b P L a v w h a0 a1 v0 v1 hw hk (by omega)
    · exact storeWord_2 b P L a v w h a0 a1 v0 v1 hw hk
    · exact storeWord_3 b P L a v w h a0 a1 v0 v1 hw hk
    · exact storeWord_4 b P L a v w h a0 a1 v0 v1 hw hk
    · exact storeWord_5 b P L a v w h a0 a1 v0 v1 hw hk
    · exact storeWord_6 b P L a v w h a0 a1 v0 v1 hw hk
    · exact storeWord_7 b P L a v w h a0 a1 v0 v1 hw hk
end Go.Proofs.YteegkhnikcioiaaGreatDoor

namespace Go.Proofs.YteegkhnikcioiaaGreatDoor
open Go.ChangeShapes Go.WideShapes Go.ChangeAt Go.RowKit
attribute [local go_sem ↓] loadSec_seal storeSec_seal eqlSec_seal zeroSec
attribute [local go_sem] loadSec_run storeSec_run rowAt_at rowAt_old rowAt_drew rowAt_drewN roomSec_new roomAt_old roomAt_drew roomAt_drewN putSec_new putRow_past rowSec_put size_put putRow_drew putRow_drewN alloc_drewN setCell_drewN sec_size

set_option linter.unusedVariables false

def Lg.ldb (L : Lg) (a : Int) : Int × Int := if a < 1048576 then (L.M a.toNat, 0) else (0, 1)
def Lg.stb (L : Lg) (a v : Int) : Int × Lg := if a < 1048576 then (0, { L with M := upd L.M a.toNat (v % 256) }) else (1, L)
theorem loadByte_any (b : Nat) (P : Ph) (L : Lg) (a : Int) (w : World) (h : Bus w b P L) (a0 : 0 ≤ a) (a1 : a ≤ 4294967295) : Calls Tryz.prog 102 #[.pointer (some ⟨b, 0, none⟩), .int .u32 a] w fun e w' => e = .returned (.tuple #[.int .u32 (L.ldb a).1, .int .i64 (L.ldb a).2]) ∧ w' = w := by
  unfold Lg.ldb
  by_cases h1 : a < 1048576
  · obtain ⟨n, rfl⟩ := Int.eq_ofNat_of_zero_le a0
    rw [if_pos h1]; exact loadByte_in b P L n w h (by omega)
  · rw [if_neg h1]; exact loadByte_out b P L a w h a0 a1 (by omega)
theorem storeByte_any (b : Nat) (P : Ph) (L : Lg) (a v : Int) (w : World) (h : Bus w b P L) (a0 : 0 ≤ a) (a1 : a ≤ 4294967295) : Calls Tryz.prog 104 #[.pointer (some ⟨b, 0, none⟩), .int .u32 a, .int .u8 (v % 256)] w fun e w' => e = .returned (.int .i64 (L.stb a v).1) ∧ Stp w b P w' P (L.stb a v).2 := by
  unfold Lg.stb
  by_cases h1 : a < 1048576
  · obtain ⟨n, rfl⟩ := Int.eq_ofNat_of_zero_le a0
    rw [if_pos h1]; exact storeByte_in b P L n (v % 256) w h (by omega) (by omega) (by omega)
  · rw [if_neg h1]
    exact (storeByte_out b P L a (v % 256) w h a0 a1 (by omega)).mono fun e w' ⟨he, hw⟩ => ⟨he, by rw [hw]; exact Stp.refl h⟩
/-- What an access answers, and what is held behind it. -/
def Lg.step (L : Lg) (k a v : Int) : (Int × Int) × Lg :=
  if k = 0 then ((0, 0), L) else if k = 1 then L.load a else if k = 2 then (L.ldb a, L) else if k = 3 then ((0, (L.store a v).1), (L.store a v).2) else if k = 4 then ((0, (L.stb a v).1), (L.stb a v).2) else ((0, 1), L)
theorem boxed {w : World} {b : Nat} {P : Ph} {L : Lg} (h : Bus w b P L) (o : Obj) : Bus (w.alloc o) b P L ∧ Stp w b P (w.alloc o) P L := ⟨h.below ((Below.refl _ w).alloc (Nat.le_refl _) _), Stp.below h ((Below.refl _ w).alloc (Nat.le_refl _) _)⟩
theorem do_0 (b : Nat) (P : Ph) (L : Lg) (k a v : Int) (w : World) (h : Bus w b P L) (a0 : 0 ≤ a) (a1 : a ≤ 4294967295) (v0 : 0 ≤ v) (v1 : v ≤ 4294967295) (hk : k = 0) : Calls Tryz.prog 67 #[.pointer (some ⟨b, 0, none⟩), .agg #[.int .i64 k, .int .u32 a, .int .u32 v]] w fun e w' => e = .returned (.tuple #[.int .u32 0, .int .i64 0]) ∧ ∃ P', Stp w b P w' P' L := by
  have H : Hid (∀ o, Bus (w.alloc o) b P L ∧ Stp w b P (w.alloc o) P L) := fun o => boxed h o
  clear h
  subst hk
  go_enter Tryz.func67, Tryz.ntmps67
  go_wp2
  go_ret2
  exact ⟨rfl, P, (H.out _).2⟩
theorem do_1 (b : Nat) (P : Ph) (L : Lg) (k a v : Int) (w : World) (h : Bus w b P L) (a0 : 0 ≤ a) (a1 : a ≤ 4294967295) (v0 : 0 ≤ v) (v1 : v ≤ 4294967295) (hk : k = 1) : Calls Tryz.prog 67 #[.pointer (some ⟨b, 0, none⟩), .agg #[.int .i64 k, .int .u32 a, .int .u32 v]] w fun e w' => e = .returned (.tuple #[.int .u32 (L.load a).1.1, .int .i64 (L.load a).1.2]) ∧ ∃ P', Stp w b P w' P' (L.load a).2 := by
  have H : Hid (∀ o, Bus (w.alloc o) b P L ∧ Stp w b P (w.alloc o) P L) := fun o => boxed h o
  clear h
  subst hk
  go_enter Tryz.func67, Tryz.ntmps67
  go_wp2_with (go_at_call 101; refine (loadWord_any b P L a _ (H.out _).1 a0 a1).mono ?_; rintro e w1 ⟨rfl, P', hS⟩)
  go_ret2
  exact ⟨rfl, P', (H.out _).2.trans hS⟩
theorem do_2 (b : Nat) (P : Ph) (L : Lg) (k a v : Int) (w : World) (h : Bus w b P L) (a0 : 0 ≤ a) (a1 : a ≤ 4294967295) (v0 : 0 ≤ v) (v1 : v ≤ 4294967295) (hk : k = 2) : Calls Tryz.prog 67 #[.pointer (some ⟨b, 0, none⟩), .agg #[.int .i64 k, .int .u32 a, .int .u32 v]] w fun e w' => e = .returned (.tuple #[.int .u32 (L.ldb a).1, .int .i64 (L.ldb a).2]) ∧ ∃ P', Stp w b P w' P' L := by
  have H : Hid (∀ o, Bus (w.alloc o) b P L ∧ Stp w b P (w.alloc o) P L) := fun o => boxed h o
  clear h
  subst hk
  go_enter Tryz.func67, Tryz.ntmps67
  go_wp2_with (go_at_call 102; refine (loadByte_any b P L a _ (H.out _).1 a0 a1).mono ?_; rintro e w1 ⟨rfl, hw⟩; obtain rfl := hw.symm)
  go_ret2
  exact ⟨rfl, P, (H.out _).2⟩
theorem do_3 (b : Nat) (P : Ph) (L : Lg) (k a v : Int) (w : World) (h : Bus w b P L) (a0 : 0 ≤ a) (a1 : a ≤ 4294967295) (v0 : 0 ≤ v) (v1 : v ≤ 4294967295) (hk : k = 3) : Calls Tryz.prog 67 #[.pointer (some ⟨b, 0, none⟩), .agg #[.int .i64 k, .int .u32 a, .int .u32 v]] w fun e w' => e = .returned (.tuple #[.int .u32 0, .int .i64 (L.store a v).1]) ∧ ∃ P', Stp w b P w' P' (L.store a v).2 := by
  have H : Hid (∀ o, Bus (w.alloc o) b P L ∧ Stp w b P (w.alloc o) P L) := fun o => boxed h o
  clear h
  subst hk
  go_enter Tryz.func67, Tryz.ntmps67
  go_wp2_with (go_at_call 103; refine (storeWord_any b P L a v _ (H.out _).1 a0 a1 v0 v1).mono ?_; rintro e w1 ⟨rfl, P', hS⟩)
  go_ret2
  exact ⟨rfl, P', (H.out _).2.trans hS⟩
theorem do_4 (b : Nat) (P : Ph) (L : Lg) (k a v : Int) (w : World) (h : Bus w b P L) (a0 : 0 ≤ a) (a1 : a ≤ 4294967295) (v0 : 0 ≤ v) (v1 : v ≤ 4294967295) (hk : k = 4) : Calls Tryz.prog 67 #[.pointer (some ⟨b, 0, none⟩), .agg #[.int .i64 k, .int .u32 a, .int .u32 v]] w fun e w' => e = .returned (.tuple #[.int .u32 0, .int .i64 (L.stb a v).1]) ∧ ∃ P', Stp w b P w' P' (L.stb a v).2 := by
  have H : Hid (∀ o, Bus (w.alloc o) b P L ∧ Stp w b P (w.alloc o) P L) := fun o => boxed h o
  clear h
  subst hk
  go_enter Tryz.func67, Tryz.ntmps67
  go_wp2_with (go_at_call 104; refine (storeByte_any b P L a v _ (H.out _).1 a0 a1).mono ?_; rintro e w1 ⟨rfl, hS⟩)
  go_ret2
  exact ⟨rfl, P, (H.out _).2.trans hS⟩
theorem do_5 (b : Nat) (P : Ph) (L : Lg) (k a v : Int) (w : World) (h : Bus w b P L) (a0 : 0 ≤ a) (a1 : a ≤ 4294967295) (v0 : 0 ≤ v) (v1 : v ≤ 4294967295) (k0 : ¬ k = 0) (k1 : ¬ k = 1) (k2 : ¬ k = 2) (k3 : ¬ k = 3) (k4 : ¬ k = 4) : Calls Tryz.prog 67 #[.pointer (some ⟨b, 0, none⟩), .agg #[.int .i64 k, .int .u32 a, .int .u32 v]] w fun e w' => e = .returned (.tuple #[.int .u32 0, .int .i64 1]) ∧ ∃ P', Stp w b P w' P' L := by
  have H : Hid (∀ o, Bus (w.alloc o) b P L ∧ Stp w b P (w.alloc o) P L) := fun o => boxed h o
  clear h
  go_enter Tryz.func67, Tryz.ntmps67
  go_wp2
  go_ret2
  exact ⟨rfl, P, (H.out _).2⟩
theorem do_any (b : Nat) (P : Ph) (L : Lg) (k a v : Int) (w : World) (h : Bus w b P L) (a0 : 0 ≤ a) (a1 : a ≤ 4294967295) (v0 : 0 ≤ v) (v1 : v ≤ 4294967295) : Calls Tryz.prog 67 #[.pointer (some ⟨b, 0, none⟩), .agg #[.int .i64 k, .int .u32 a, .int .u32 v]] w fun e w' => e = .returned (.tuple #[.int .u32 (L.step k a v).1.1, .int .i64 (L.step k a v).1.2]) ∧ ∃ P', Stp w b P w' P' (L.step k a v).2 := by
  unfold Lg.step
  by_cases k0 : k = 0
  · rw [if_pos k0]; exact do_0 b P L k a v w h a0 a1 v0 v1 k0
  rw [if_neg k0]
  by_cases k1 : k = 1
  · rw [if_pos k1]; exact do_1 b P L k a v w h a0 a1 v0 v1 k1
  rw [if_neg k1]
  by_cases k2 : k = 2
  · rw [if_pos k2]; exact do_2 b P L k a v w h a0 a1 v0 v1 k2
  rw [if_neg k2]
  by_cases k3 : k = 3
  · rw [if_pos k3]; exact do_3 b P L k a v w h a0 a1 v0 v1 k3
  rw [if_neg k3]
  by_cases k4 : k = 4
  · rw [if_pos k4]; exact do_4 b P L k a v w h a0 a1 v0 v1 k4
  rw [if_neg k4]
  exact do_5 b P L k a v w h a0 a1 v0 v1 k0 k1 k2 k3 k4
end Go.Proofs.YteegkhnikcioiaaGreatDoor
