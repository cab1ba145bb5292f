/-
  A word is stored, into memory or into a device; every access.
-/
import Derived.Test.YtbkkjnafnckleaaLoad
namespace Go.Proofs.Ytbkkjnafnckleaa
open Go.ChangeShapes Go.WideShapes Go.ChangeAt Go.RowKit
attribute [local go_sem ↓] loadSec_seal storeSec_seal eqlSec_seal zeroSec
attribute [local go_sem] loadSec_run storeSec_run rowAt_at rowAt_old rowAt_drew rowAt_drewN roomSec_new roomAt_old roomAt_drew roomAt_drewN putSec_new putRow_past rowSec_put size_put putRow_drew putRow_drewN alloc_drewN setCell_drewN sec_size

set_option linter.unusedVariables false

/-- How the store of a word ends, and what is held behind it. -/
def Lg.into (L : Lg) (v : Int) : Nat → Int × Lg
  | 1 => (0, if L.O.length < 65536 then { L with O := L.O ++ [v % 256] } else L)
  | 3 => (0, { L with sc := v })
  | 4 => (0, { L with ad := v })
  | 5 => (0, L.obeyed v)
  | _ => (1, L)
def Lg.store (L : Lg) (a v : Int) : Int × Lg := if isW a then (0, { L with M := pokeM L.M a v }) else L.into v (devN a)
theorem storeWord_mem (b : Nat) (P : Ph) (L : Lg) (a v : Int) (w : World) (h : Bus w b P L) (a0 : 0 ≤ a) (a1 : a ≤ 4294967295) (hw : isW a = true) : Calls Try.prog 44 #[.pointer (some ⟨b, 0, none⟩), .int .u32 a, .int .u32 v] w fun e w' => e = .returned (.int .i64 0) ∧ ∃ P', Stp w b P w' P' { L with M := pokeM L.M a v } := by
  have H : Hid (Bus w b P L) := h
  clear h
  go_enter Try.func44, Try.ntmps44
  go_wp2_with (go_at_call 23; refine (poke_any b P L a v _ H.out a0 a1).mono ?_; rw [hw]; rintro e w1 ⟨rfl, hS⟩)
  go_ret
  exact ⟨rfl, P, hS⟩
set_option maxHeartbeats 1000000 in
theorem storeWord_0 (b : Nat) (P : Ph) (L : Lg) (a v : Int) (w : World) (h : Bus w b P L) (a0 : 0 ≤ a) (a1 : a ≤ 4294967295) (v0 : 0 ≤ v) (v1 : v ≤ 4294967295) (hw : isW a = false) (hk : devN a = 0) : Calls Try.prog 44 #[.pointer (some ⟨b, 0, none⟩), .int .u32 a, .int .u32 v] w fun e w' => e = .returned (.int .i64 1) ∧ ∃ P', Stp w b P w' P' L := by
  have H : Hid (Bus w b P L) := h
  have HP : Hid (pokeM L.M a v = L.M) := by show pokeM L.M a v = L.M; unfold pokeM; rw [hw]; rfl
  have q1 := field_store
  have q2 := neq_store
  have q3 := neq_storen
  clear h
  go_enter Try.func44, Try.ntmps44
  go_wp2_with (first
    | (go_at_call 23; refine (poke_any b P L a v _ H.out a0 a1).mono ?_; rw [hw]; rintro e w1 ⟨rfl, hS⟩; have HS : Hid (Stp w b P w1 P L) := by { rw [HP.out] at hS; exact hS }; clear hS)
    | (go_at_call 68; refine (dev_0 b P L a _ HS.out.bus hk).mono ?_; rintro e w2 ⟨rfl, hb⟩; have HS2 : Hid (Stp w b P w2 P L) := HS.out.trans (Stp.below HS.out.bus hb); clear hb HS))
  go_ret
  exact ⟨rfl, P, HS2.out⟩
set_option maxHeartbeats 1000000 in
theorem storeWord_2 (b : Nat) (P : Ph) (L : Lg) (a v : Int) (w : World) (h : Bus w b P L) (a0 : 0 ≤ a) (a1 : a ≤ 4294967295) (v0 : 0 ≤ v) (v1 : v ≤ 4294967295) (hw : isW a = false) (hk : devN a = 2) : Calls Try.prog 44 #[.pointer (some ⟨b, 0, none⟩), .int .u32 a, .int .u32 v] w fun e w' => e = .returned (.int .i64 1) ∧ ∃ P', Stp w b P w' P' L := by
  have H : Hid (Bus w b P L) := h
  have HP : Hid (pokeM L.M a v = L.M) := by show pokeM L.M a v = L.M; unfold pokeM; rw [hw]; rfl
  have q1 := field_store
  have q2 := neq_store
  have q3 := neq_storen
  clear h
  go_enter Try.func44, Try.ntmps44
  go_wp2_with (first
    | (go_at_call 23; refine (poke_any b P L a v _ H.out a0 a1).mono ?_; rw [hw]; rintro e w1 ⟨rfl, hS⟩; have HS : Hid (Stp w b P w1 P L) := by { rw [HP.out] at hS; exact hS }; clear hS)
    | (go_at_call 68; refine (dev_2 b P L a _ HS.out.bus hk).mono ?_; rintro e w2 ⟨rfl, hb⟩; have HS2 : Hid (Stp w b P w2 P L) := HS.out.trans (Stp.below HS.out.bus hb); clear hb HS))
  go_ret
  exact ⟨rfl, P, HS2.out⟩
set_option maxHeartbeats 1000000 in
theorem storeWord_6 (b : Nat) (P : Ph) (L : Lg) (a v : Int) (w : World) (h : Bus w b P L) (a0 : 0 ≤ a) (a1 : a ≤ 4294967295) (v0 : 0 ≤ v) (v1 : v ≤ 4294967295) (hw : isW a = false) (hk : devN a = 6) : Calls Try.prog 44 #[.pointer (some ⟨b, 0, none⟩), .int .u32 a, .int .u32 v] w fun e w' => e = .returned (.int .i64 1) ∧ ∃ P', Stp w b P w' P' L := by
  have H : Hid (Bus w b P L) := h
  have HP : Hid (pokeM L.M a v = L.M) := by show pokeM L.M a v = L.M; unfold pokeM; rw [hw]; rfl
  have q1 := field_store
  have q2 := neq_store
  have q3 := neq_storen
  clear h
  go_enter Try.func44, Try.ntmps44
  go_wp2_with (first
    | (go_at_call 23; refine (poke_any b P L a v _ H.out a0 a1).mono ?_; rw [hw]; rintro e w1 ⟨rfl, hS⟩; have HS : Hid (Stp w b P w1 P L) := by { rw [HP.out] at hS; exact hS }; clear hS)
    | (go_at_call 68; refine (dev_6 b P L a _ HS.out.bus hk).mono ?_; rintro e w2 ⟨rfl, hb⟩; have HS2 : Hid (Stp w b P w2 P L) := HS.out.trans (Stp.below HS.out.bus hb); clear hb HS))
  go_ret
  exact ⟨rfl, P, HS2.out⟩
set_option maxHeartbeats 1000000 in
theorem storeWord_7 (b : Nat) (P : Ph) (L : Lg) (a v : Int) (w : World) (h : Bus w b P L) (a0 : 0 ≤ a) (a1 : a ≤ 4294967295) (v0 : 0 ≤ v) (v1 : v ≤ 4294967295) (hw : isW a = false) (hk : devN a = 7) : Calls Try.prog 44 #[.pointer (some ⟨b, 0, none⟩), .int .u32 a, .int .u32 v] w fun e w' => e = .returned (.int .i64 1) ∧ ∃ P', Stp w b P w' P' L := by
  have H : Hid (Bus w b P L) := h
  have HP : Hid (pokeM L.M a v = L.M) := by show pokeM L.M a v = L.M; unfold pokeM; rw [hw]; rfl
  have q1 := field_store
  have q2 := neq_store
  have q3 := neq_storen
  clear h
  go_enter Try.func44, Try.ntmps44
  go_wp2_with (first
    | (go_at_call 23; refine (poke_any b P L a v _ H.out a0 a1).mono ?_; rw [hw]; rintro e w1 ⟨rfl, hS⟩; have HS : Hid (Stp w b P w1 P L) := by { rw [HP.out] at hS; exact hS }; clear hS)
    | (go_at_call 68; refine (dev_7 b P L a _ HS.out.bus hk).mono ?_; rintro e w2 ⟨rfl, hb⟩; have HS2 : Hid (Stp w b P w2 P L) := HS.out.trans (Stp.below HS.out.bus hb); clear hb HS))
  go_ret
  exact ⟨rfl, P, HS2.out⟩
set_option maxHeartbeats 1000000 in
theorem storeWord_1e (b : Nat) (P : Ph) (L : Lg) (a v : Int) (w : World) (h : Bus w b P L) (a0 : 0 ≤ a) (a1 : a ≤ 4294967295) (v0 : 0 ≤ v) (v1 : v ≤ 4294967295) (hw : isW a = false) (hk : devN a = 1) (hO : 65536 ≤ L.O.length) : Calls Try.prog 44 #[.pointer (some ⟨b, 0, none⟩), .int .u32 a, .int .u32 v] w fun e w' => e = .returned (.int .i64 0) ∧ ∃ P', Stp w b P w' P' L := by
  have H : Hid (Bus w b P L) := h
  have HP : Hid (pokeM L.M a v = L.M) := by show pokeM L.M a v = L.M; unfold pokeM; rw [hw]; rfl
  have q1 := field_store
  have q2 := neq_store
  have q3 := neq_storen
  clear h
  go_enter Try.func44, Try.ntmps44
  go_wp2_with (first
    | (go_at_call 23; refine (poke_any b P L a v _ H.out a0 a1).mono ?_; rw [hw]; rintro e w1 ⟨rfl, hS⟩; have HS : Hid (Stp w b P w1 P L) := by { rw [HP.out] at hS; exact hS }; clear hS)
    | (go_at_call 68; refine (dev_1 b P L a _ HS.out.bus hk).mono ?_; rintro e w2 ⟨rfl, hb⟩; have HS2 : Hid (Stp w b P w2 P L) := HS.out.trans (Stp.below HS.out.bus hb); clear hb HS)
    | (go_at_call 58; refine (putOut_full b P L v _ HS2.out.bus hO).mono ?_; rintro e w3 ⟨rfl, hw3⟩; obtain rfl := hw3.symm))
  go_ret
  exact ⟨rfl, P, HS2.out⟩
set_option maxHeartbeats 1000000 in
theorem storeWord_1f (b : Nat) (P : Ph) (L : Lg) (a v : Int) (w : World) (h : Bus w b P L) (a0 : 0 ≤ a) (a1 : a ≤ 4294967295) (v0 : 0 ≤ v) (v1 : v ≤ 4294967295) (hw : isW a = false) (hk : devN a = 1) (hO : L.O.length < 65536) : Calls Try.prog 44 #[.pointer (some ⟨b, 0, none⟩), .int .u32 a, .int .u32 v] w fun e w' => e = .returned (.int .i64 0) ∧ ∃ P', Stp w b P w' P' { L with O := L.O ++ [v % 256] } := by
  have H : Hid (Bus w b P L) := h
  have HP : Hid (pokeM L.M a v = L.M) := by show pokeM L.M a v = L.M; unfold pokeM; rw [hw]; rfl
  have q1 := field_store
  have q2 := neq_store
  have q3 := neq_storen
  clear h
  go_enter Try.func44, Try.ntmps44
  go_wp2_with (first
    | (go_at_call 23; refine (poke_any b P L a v _ H.out a0 a1).mono ?_; rw [hw]; rintro e w1 ⟨rfl, hS⟩; have HS : Hid (Stp w b P w1 P L) := by { rw [HP.out] at hS; exact hS }; clear hS)
    | (go_at_call 68; refine (dev_1 b P L a _ HS.out.bus hk).mono ?_; rintro e w2 ⟨rfl, hb⟩; have HS2 : Hid (Stp w b P w2 P L) := HS.out.trans (Stp.below HS.out.bus hb); clear hb HS)
    | (go_at_call 58; refine (putOut_ok b P L v _ HS2.out.bus hO).mono ?_; rintro e w3 ⟨rfl, P', hS⟩))
  go_ret
  exact ⟨rfl, P', HS2.out.trans hS⟩
set_option maxHeartbeats 1000000 in
theorem storeWord_3 (b : Nat) (P : Ph) (L : Lg) (a v : Int) (w : World) (h : Bus w b P L) (a0 : 0 ≤ a) (a1 : a ≤ 4294967295) (v0 : 0 ≤ v) (v1 : v ≤ 4294967295) (hw : isW a = false) (hk : devN a = 3) : Calls Try.prog 44 #[.pointer (some ⟨b, 0, none⟩), .int .u32 a, .int .u32 v] w fun e w' => e = .returned (.int .i64 0) ∧ ∃ P', Stp w b P w' P' { L with sc := v } := by
  have H : Hid (Bus w b P L) := h
  have HP : Hid (pokeM L.M a v = L.M) := by show pokeM L.M a v = L.M; unfold pokeM; rw [hw]; rfl
  have q1 := field_store
  have q2 := neq_store
  have q3 := neq_storen
  clear h
  go_enter Try.func44, Try.ntmps44
  go_wp2_with (first
    | (go_at_call 23; refine (poke_any b P L a v _ H.out a0 a1).mono ?_; rw [hw]; rintro e w1 ⟨rfl, hS⟩; have HS : Hid (Stp w b P w1 P L) := by { rw [HP.out] at hS; exact hS }; clear hS)
    | (go_at_call 68; refine (dev_3 b P L a _ HS.out.bus hk).mono ?_; rintro e w2 ⟨rfl, hb⟩; have HS2 : Hid (Stp w b P w2 P L) := HS.out.trans (Stp.below HS.out.bus hb); clear hb HS)
    | (go_at_call 61; refine (setSector_any b P L v _ HS2.out.bus v0 v1).mono ?_; rintro e w3 ⟨rfl, hS⟩))
  go_ret
  exact ⟨rfl, P, HS2.out.trans hS⟩
set_option maxHeartbeats 1000000 in
theorem storeWord_4 (b : Nat) (P : Ph) (L : Lg) (a v : Int) (w : World) (h : Bus w b P L) (a0 : 0 ≤ a) (a1 : a ≤ 4294967295) (v0 : 0 ≤ v) (v1 : v ≤ 4294967295) (hw : isW a = false) (hk : devN a = 4) : Calls Try.prog 44 #[.pointer (some ⟨b, 0, none⟩), .int .u32 a, .int .u32 v] w fun e w' => e = .returned (.int .i64 0) ∧ ∃ P', Stp w b P w' P' { L with ad := v } := by
  have H : Hid (Bus w b P L) := h
  have HP : Hid (pokeM L.M a v = L.M) := by show pokeM L.M a v = L.M; unfold pokeM; rw [hw]; rfl
  have q1 := field_store
  have q2 := neq_store
  have q3 := neq_storen
  clear h
  go_enter Try.func44, Try.ntmps44
  go_wp2_with (first
    | (go_at_call 23; refine (poke_any b P L a v _ H.out a0 a1).mono ?_; rw [hw]; rintro e w1 ⟨rfl, hS⟩; have HS : Hid (Stp w b P w1 P L) := by { rw [HP.out] at hS; exact hS }; clear hS)
    | (go_at_call 68; refine (dev_4 b P L a _ HS.out.bus hk).mono ?_; rintro e w2 ⟨rfl, hb⟩; have HS2 : Hid (Stp w b P w2 P L) := HS.out.trans (Stp.below HS.out.bus hb); clear hb HS)
    | (go_at_call 63; refine (setAddress_any b P L v _ HS2.out.bus v0 v1).mono ?_; rintro e w3 ⟨rfl, hS⟩))
  go_ret
  exact ⟨rfl, P, HS2.out.trans hS⟩
set_option maxHeartbeats 1000000 in
theorem storeWord_5 (b : Nat) (P : Ph) (L : Lg) (a v : Int) (w : World) (h : Bus w b P L) (a0 : 0 ≤ a) (a1 : a ≤ 4294967295) (v0 : 0 ≤ v) (v1 : v ≤ 4294967295) (hw : isW a = false) (hk : devN a = 5) : Calls Try.prog 44 #[.pointer (some ⟨b, 0, none⟩), .int .u32 a, .int .u32 v] w fun e w' => e = .returned (.int .i64 0) ∧ ∃ P', Stp w b P w' P' (L.obeyed v) := by
  have H : Hid (Bus w b P L) := h
  have HP : Hid (pokeM L.M a v = L.M) := by show pokeM L.M a v = L.M; unfold pokeM; rw [hw]; rfl
  have q1 := field_store
  have q2 := neq_store
  have q3 := neq_storen
  clear h
  go_enter Try.func44, Try.ntmps44
  go_wp2_with (first
    | (go_at_call 23; refine (poke_any b P L a v _ H.out a0 a1).mono ?_; rw [hw]; rintro e w1 ⟨rfl, hS⟩; have HS : Hid (Stp w b P w1 P L) := by { rw [HP.out] at hS; exact hS }; clear hS)
    | (go_at_call 68; refine (dev_5 b P L a _ HS.out.bus hk).mono ?_; rintro e w2 ⟨rfl, hb⟩; have HS2 : Hid (Stp w b P w2 P L) := HS.out.trans (Stp.below HS.out.bus hb); clear hb HS)
    | (go_at_call 65; refine (obey_any b P L v _ HS2.out.bus).mono ?_; rintro e w3 ⟨rfl, P', hS⟩))
  go_ret
  exact ⟨rfl, P', HS2.out.trans hS⟩
theorem storeWord_any (b : Nat) (P : Ph) (L : Lg) (a v : Int) (w : World) (h : Bus w b P L) (a0 : 0 ≤ a) (a1 : a ≤ 4294967295) (v0 : 0 ≤ v) (v1 : v ≤ 4294967295) : Calls Try.prog 44 #[.pointer (some ⟨b, 0, none⟩), .int .u32 a, .int .u32 v] w fun e w' => e = .returned (.int .i64 (L.store a v).1) ∧ ∃ P', Stp w b P w' P' (L.store a v).2 := by
  unfold Lg.store
  by_cases hw : isW a = true
  · rw [if_pos hw]; exact storeWord_mem b P L a v w h a0 a1 hw
  · rw [if_neg hw]
    have hw : isW a = false := by simpa using hw
    have h7 := devN_le a
    have hk : devN a = 0 ∨ devN a = 1 ∨ devN a = 2 ∨ devN a = 3 ∨ devN a = 4 ∨ devN a = 5 ∨ devN a = 6 ∨ devN a = 7 := by omega
    rcases hk with hk | hk | hk | hk | hk | hk | hk | hk <;> rw [hk]
    · exact storeWord_0 b P L a v w h a0 a1 v0 v1 hw hk
    · unfold Lg.into
      by_cases hO : L.O.length < 65536
      · rw [if_pos hO]; exact storeWord_1f b P L a v w h a0 a1 v0 v1 hw hk hO
      · rw [if_neg hO]; exact storeWord_1e b P L a v w h a0 a1 v0 v1 hw hk (by omega)
    · exact storeWord_2 b P L a v w h a0 a1 v0 v1 hw hk
    · exact storeWord_3 b P L a v w h a0 a1 v0 v1 hw hk
    · exact storeWord_4 b P L a v w h a0 a1 v0 v1 hw hk
    · exact storeWord_5 b P L a v w h a0 a1 v0 v1 hw hk
    · exact storeWord_6 b P L a v w h a0 a1 v0 v1 hw hk
    · exact storeWord_7 b P L a v w h a0 a1 v0 v1 hw hk
end Go.Proofs.Ytbkkjnafnckleaa
