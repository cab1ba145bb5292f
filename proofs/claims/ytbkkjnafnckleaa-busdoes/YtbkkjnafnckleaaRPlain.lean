/-
  The short calls of the document's bus.
-/
import Derived.Test.YtbkkjnafnckleaaRBus
import Derived.BigRegion
import Derived.Laws.DeepStrings4
namespace Go.Proofs.Ytbkkjnafnckleaa
open Go.ChangeShapes Go.WideShapes Go.ChangeAt Go.RowKit
attribute [local go_sem ↓] loadSec_seal storeSec_seal eqlSec_seal zeroSec
attribute [local go_sem] loadSec_run storeSec_run rowAt_at rowAt_old rowAt_drew rowAt_drewN roomSec_new roomAt_old roomAt_drew roomAt_drewN putSec_new putRow_past rowSec_put size_put putRow_drew putRow_drewN alloc_drewN setCell_drewN sec_size

set_option linter.unusedVariables false

theorem inside_any (a : Int) (w : World) : Calls Try.prog 49 #[.int .u32 a] w fun e w' => e = .returned (.bool (decide (a < 1048576))) ∧ w' = w := by
  go_enter Try.func49, Try.ntmps49
  go_wp2
  go_ret
  exact ⟨rfl, rfl⟩
theorem rtick_any (r : Nat) (P : RPh) (L : Lg) (v : Int) (w : World) (h : RBus w r P L) (v0 : 0 ≤ v) (v1 : v ≤ 4294967295) : Calls Try.prog 32 #[.pointer (some ⟨r, 0, none⟩), .int .u32 v] w fun e w' => e = .returned (.tuple #[]) ∧ RStp w r P w' P { L with tk := (L.tk + v) % 4294967296 } := by
  have c0 := h.eight.c4
  have f0 := h.free (j := 4) (by omega)
  have H : Hid (RBus w r P L) := h
  have t0 := h.tk.1
  have t1 := h.tk.2
  clear h
  go_enter Try.func32, Try.ntmps32
  go_wp2
  go_end0
  exact ⟨rfl, RStp.put H.out (show RCore w r P { L with tk := (L.tk + v) % 4294967296 } from { H.out.toRCore with tk := by unfold U32; simp only []; omega }) 4 _ rfl⟩
theorem rwaiting_any (r : Nat) (P : RPh) (L : Lg) (w : World) (h : RBus w r P L) : Calls Try.prog 33 #[.pointer (some ⟨r, 0, none⟩)] w fun e w' => e = .returned (.int .i64 L.I.length) ∧ w' = w := by
  have c0 := h.eight.c2
  have HE : Hid (L.I.length = P.In.size) := by show L.I.length = P.In.size; rw [← h.inp, bytesL_len]
  clear h
  go_enter Try.func33, Try.ntmps33
  go_wp2
  go_ret
  exact ⟨ret_int (by rw [HE.out]), rfl⟩
theorem rout_any (r : Nat) (P : RPh) (L : Lg) (w : World) (h : RBus w r P L) : Calls Try.prog 34 #[.pointer (some ⟨r, 0, none⟩)] w fun e w' => e = .returned (.string (strO L.O)) ∧ w' = w := by
  have c4 := h.eight.c3
  have hc : ∀ cap, (convert 35 9 (.slice P.pa L.O.length cap)).run Try.prog w = .ok (.string (strO L.O)) w := fun cap => conv_str cap (h.out.rd (by have := h.ol; unfold maxLen; omega))
  clear h
  go_enter Try.func34, Try.ntmps34
  go_wp2
  go_ret
  exact ⟨rfl, rfl⟩
theorem rsecs_any (r : Nat) (R : Rk) (w : World) (h : RepR w r R) : Calls Try.prog 11 #[.pointer (some ⟨r, 0, none⟩)] w fun e w' => e = .returned (.int .i64 R.n) ∧ w' = w := by
  obtain ⟨fa, fc, wa, wc, _, _, c0, _, _⟩ := h.parts
  clear h
  go_enter Try.func11, Try.ntmps11
  go_wp2
  go_ret
  exact ⟨rfl, rfl⟩
/-! Bytes of words. -/
theorem wd_byte {M : Nat → Int} {q : Nat} (h : ∀ j, j < 4 → 0 ≤ M (4 * q + j) ∧ M (4 * q + j) ≤ 255) : (wd M q % 256 = M (4 * q) ∧ wd M q / 256 % 256 = M (4 * q + 1) ∧ wd M q / 65536 % 256 = M (4 * q + 2) ∧ wd M q / 16777216 % 256 = M (4 * q + 3)) ∧ 0 ≤ wd M q ∧ wd M q ≤ 4294967295 := by
  have h0 := h 0 (by omega)
  have h1 := h 1 (by omega)
  have h2 := h 2 (by omega)
  have h3 := h 3 (by omega)
  simp only [Nat.add_zero] at h0
  unfold wd
  omega
theorem byteAt_any (r : Nat) (P : RPh) (L : Lg) (a : Nat) (w : World) (h : RBus w r P L) (ha : a < 1048576) : Calls Try.prog 50 #[.pointer (some ⟨r, 0, none⟩), .int .u32 a] w fun e w' => e = .returned (.int .u8 (L.M a)) ∧ w' = w := by
  obtain ⟨q, hq⟩ : ∃ q, q = a / 4 := ⟨_, rfl⟩
  have hb := wd_byte (M := L.M) (q := q) (fun j hj => h.byte (4 * q + j) (by omega))
  have c0 := h.eight.c0
  have cw := (h.mem.at (k := q) (by omega)).1
  have e1 : (a : Int) / 4 = (q : Int) := by omega
  have i0 : (0 : Int) ≤ (q : Int) := by omega
  have i1 : (q : Int) < 262144 := by omega
  have b0 := hb.2.1
  have b1 := hb.2.2
  clear h
  have hj : a = 4 * q ∨ a = 4 * q + 1 ∨ a = 4 * q + 2 ∨ a = 4 * q + 3 := by omega
  rcases hj with hj | hj | hj | hj
  · have HE : Hid (wd L.M q % 256 = L.M a) := by rw [hj]; exact hb.1.1
    have e2 : (a : Int) % 4 = 0 := by omega
    clear hb hj hq
    go_enter Try.func50, Try.ntmps50
    go_wp2
    go_ret
    exact ⟨ret_int HE.out, rfl⟩
  · have HE : Hid (wd L.M q / 256 % 256 = L.M a) := by rw [hj]; exact hb.1.2.1
    have e2 : (a : Int) % 4 = 1 := by omega
    clear hb hj hq
    go_enter Try.func50, Try.ntmps50
    go_wp2
    go_ret
    exact ⟨ret_int HE.out, rfl⟩
  · have HE : Hid (wd L.M q / 65536 % 256 = L.M a) := by rw [hj]; exact hb.1.2.2.1
    have e2 : (a : Int) % 4 = 2 := by omega
    clear hb hj hq
    go_enter Try.func50, Try.ntmps50
    go_wp2
    go_ret
    exact ⟨ret_int HE.out, rfl⟩
  · have HE : Hid (wd L.M q / 16777216 % 256 = L.M a) := by rw [hj]; exact hb.1.2.2.2
    have e2 : (a : Int) % 4 = 3 := by omega
    clear hb hj hq
    go_enter Try.func50, Try.ntmps50
    go_wp2
    go_ret
    exact ⟨ret_int (by have := HE.out; omega), rfl⟩
theorem rword_any (r : Nat) (P : RPh) (L : Lg) (a : Int) (w : World) (h : RBus w r P L) (a0 : 0 ≤ a) (a1 : a ≤ 4294967295) : Calls Try.prog 35 #[.pointer (some ⟨r, 0, none⟩), .int .u32 a] w fun e w' => e = .returned (.tuple #[.int .u32 (gotV L.M a), .bool (isW a)]) ∧ w' = w := by
  have c0 := h.eight.c0
  by_cases hin : a < 1048576
  · have hd : decide (a < 1048576) = true := decide_eq_true hin
    by_cases h4 : a % 4 = 0
    · obtain ⟨q, hq⟩ : ∃ q : Nat, a / 4 = (q : Int) := ⟨(a / 4).toNat, by omega⟩
      have cw := (h.mem.at (k := q) (by omega)).1
      have HE : Hid (wd L.M q = gotV L.M a ∧ isW a = true) := by
        have hw : isW a = true := by unfold isW; exact decide_eq_true ⟨h4, hin⟩
        exact ⟨by unfold gotV; rw [if_pos hw]; exact (wd_word L.M q (by omega)).symm, hw⟩
      have i0 : (0 : Int) ≤ (q : Int) := by omega
      have i1 : (q : Int) < 262144 := by omega
      clear h
      go_enter Try.func35, Try.ntmps35
      go_wp2_with (go_at_call 49; refine (inside_any _ _).mono ?_; rw [hd]; rintro e w1 ⟨rfl, hw⟩; obtain rfl := hw.symm)
      go_ret2
      exact ⟨ret2b HE.out.1 HE.out.2.symm, rfl⟩
    · have HE : Hid (isW a = false) := by show isW a = false; unfold isW; exact decide_eq_false (by omega)
      clear h
      go_enter Try.func35, Try.ntmps35
      go_wp2_with (go_at_call 49; refine (inside_any _ _).mono ?_; rw [hd]; rintro e w1 ⟨rfl, hw⟩; obtain rfl := hw.symm)
      go_ret2
      exact ⟨ret2b (by unfold gotV; rw [HE.out]; rfl) HE.out.symm, rfl⟩
  · have hd : decide (a < 1048576) = false := decide_eq_false hin
    have HE : Hid (isW a = false) := by show isW a = false; unfold isW; exact decide_eq_false (by omega)
    clear h
    go_enter Try.func35, Try.ntmps35
    go_wp2_with (go_at_call 49; refine (inside_any _ _).mono ?_; rw [hd]; rintro e w1 ⟨rfl, hw⟩; obtain rfl := hw.symm)
    go_ret2
    exact ⟨ret2b (by unfold gotV; rw [HE.out]; rfl) HE.out.symm, rfl⟩
/-- A word is laid into memory. -/
theorem wd_poke {M : Nat → Int} {q : Nat} {v : Int} (v0 : 0 ≤ v) (v1 : v ≤ 4294967295) (i : Nat) : upd (wd M) q v i = wd (partL M (4 * q) v 4) i := by
  have e : ∀ k, partL M (4 * q) v 4 (4 * i + k) = if i = q ∧ k < 4 then byteOf v k else if k < 4 then M (4 * i + k) else partL M (4 * q) v 4 (4 * i + k) := fun k => by
    by_cases h1 : i = q ∧ k < 4
    · rw [if_pos h1]; unfold partL; rw [if_pos (by omega), show 4 * i + k - 4 * q = k by omega]
    · rw [if_neg h1]
      by_cases h2 : k < 4
      · rw [if_pos h2]; unfold partL; rw [if_neg (by omega)]
      · rw [if_neg h2]
  have e0 := e 0
  have e1 := e 1
  have e2 := e 2
  have e3 := e 3
  simp only [Nat.add_zero] at e0
  by_cases hi : i = q
  · rw [if_pos ⟨hi, by omega⟩] at e0 e1 e2 e3
    rw [hi, upd_at]
    rw [hi] at e0 e1 e2 e3
    unfold wd
    rw [e0, e1, e2, e3]
    have := word_back v v0 v1
    simp only [tgv] at this
    omega
  · rw [if_neg (fun h => hi h.1), if_pos (by omega)] at e0 e1 e2 e3
    rw [upd_ne _ _ hi]
    unfold wd
    rw [e0, e1, e2, e3]
theorem rpoke_end {w : World} {r : Nat} {P : RPh} {L : Lg} (h : RBus w r P L) {q : Nat} (hq : q < 262144) {a v : Int} (ha : a = ((4 * q : Nat) : Int)) (v0 : 0 ≤ v) (v1 : v ≤ 4294967295) {X : World} (hX : X = w.setCell ⟨P.mb, q, none⟩ (.int .u32 v)) : RStp w r P X P { L with M := pokeM L.M a v } := by
  subst hX ha
  have hw : isW ((4 * q : Nat) : Int) = true := by unfold isW; exact decide_eq_true (by omega)
  have e : pokeM L.M ((4 * q : Nat) : Int) v = partL L.M (4 * q) v 4 := by unfold pokeM; rw [if_pos hw, Int.toNat_natCast]
  rw [e]
  exact RStp.mem h ((Tou.refl (fun x => x = P.mb) _).set ⟨P.mb, q, none⟩ rfl _) ((h.mem.set hq v).ext fun i _ => wd_poke v0 v1 i) (part_byte h.byte _ _ _)
theorem rpoke_any (r : Nat) (P : RPh) (L : Lg) (a v : Int) (w : World) (h : RBus w r P L) (a0 : 0 ≤ a) (a1 : a ≤ 4294967295) (v0 : 0 ≤ v) (v1 : v ≤ 4294967295) : Calls Try.prog 36 #[.pointer (some ⟨r, 0, none⟩), .int .u32 a, .int .u32 v] w fun e w' => e = .returned (.bool (isW a)) ∧ RStp w r P w' P { L with M := pokeM L.M a v } := by
  have c0 := h.eight.c0
  have H : Hid (RBus w r P L) := h
  by_cases hin : a < 1048576
  · have hd : decide (a < 1048576) = true := decide_eq_true hin
    by_cases h4 : a % 4 = 0
    · obtain ⟨q, hq⟩ : ∃ q : Nat, a / 4 = (q : Int) := ⟨(a / 4).toNat, by omega⟩
      have cw := h.mem.at (k := q) (by omega)
      obtain ⟨cw, cf⟩ := cw
      have HW : Hid (isW a = true ∧ a = ((4 * q : Nat) : Int)) := ⟨by unfold isW; exact decide_eq_true ⟨h4, hin⟩, by omega⟩
      have i0 : (0 : Int) ≤ (q : Int) := by omega
      have i1 : (q : Int) < 262144 := by omega
      clear h
      go_enter Try.func36, Try.ntmps36
      go_wp2_with (go_at_call 49; refine (inside_any _ _).mono ?_; rw [hd]; rintro e w1 ⟨rfl, hw⟩; obtain rfl := hw.symm)
      go_ret
      exact ⟨ret_bool HW.out.1.symm, rpoke_end H.out (by omega) HW.out.2 v0 v1 rfl⟩
    · have HE : Hid (isW a = false) := by show isW a = false; unfold isW; exact decide_eq_false (by omega)
      clear h
      go_enter Try.func36, Try.ntmps36
      go_wp2_with (go_at_call 49; refine (inside_any _ _).mono ?_; rw [hd]; rintro e w1 ⟨rfl, hw⟩; obtain rfl := hw.symm)
      go_ret
      refine ⟨ret_bool HE.out.symm, ?_⟩
      have e : pokeM L.M a v = L.M := by unfold pokeM; rw [HE.out]; rfl
      rw [e]; exact RStp.refl H.out
  · have hd : decide (a < 1048576) = false := decide_eq_false hin
    have HE : Hid (isW a = false) := by show isW a = false; unfold isW; exact decide_eq_false (by omega)
    clear h
    go_enter Try.func36, Try.ntmps36
    go_wp2_with (go_at_call 49; refine (inside_any _ _).mono ?_; rw [hd]; rintro e w1 ⟨rfl, hw⟩; obtain rfl := hw.symm)
    go_ret
    refine ⟨ret_bool HE.out.symm, ?_⟩
    have e : pokeM L.M a v = L.M := by unfold pokeM; rw [HE.out]; rfl
    rw [e]; exact RStp.refl H.out
end Go.Proofs.Ytbkkjnafnckleaa
