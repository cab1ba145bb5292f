/-
  Plain facts for the law WordBack: what is added is taken off again, what is put is got, what is written as digits is read, what is turned is turned back, a quotient and its rest make the whole.
-/
import Derived.Test.YtjmbpehdikeiaabUnhexes
namespace Go.Proofs.Ytjmbpehdikeiaab
open Go.ChangeShapes Go.WideShapes Go.ChangeAt Go.RowKit

theorem back_sum (a b : Int) (c : Bool) (h0 : 0 ≤ a) (h1 : a ≤ 4294967295) (g0 : 0 ≤ b) (g1 : b ≤ 4294967295) : subS (addS a b c) b c = a ∧ subC (addS a b c) b c = addC a b c := by
  have bc := bit_bd c
  unfold subS subC addS addC
  refine ⟨by omega, ?_⟩
  rw [decide_eq_decide]
  omega
theorem addS_bd (a b : Int) (c : Bool) : 0 ≤ addS a b c ∧ addS a b c ≤ 4294967295 := by unfold addS; omega
theorem mul_whole (a b : Int) (h0 : 0 ≤ a) (h1 : a ≤ 4294967295) (g0 : 0 ≤ b) (g1 : b ≤ 4294967295) : mulH a b true * 4294967296 + mulL a b true = a * b ∧ 0 ≤ mulH a b true ∧ mulH a b true ≤ 4294967295 ∧ 0 ≤ mulL a b true ∧ mulL a b true ≤ 4294967295 ∧ 0 ≤ a * b ∧ a * b ≤ 18446744065119617025 := by
  have hp0 : 0 ≤ a * b := Int.mul_nonneg h0 g0
  have hp1 : a * b ≤ 4294967295 * 4294967295 := Int.mul_le_mul h1 g1 g0 (by omega)
  have e : mulP a b true = a * b := rfl
  unfold mulH mulL
  rw [e]
  omega
theorem ror_back (a : Int) (k : Nat) (h0 : 0 ≤ a) (h1 : a ≤ 4294967295) (hk : k ≤ 31) : rorK (rorK a k) ((32 - k) % 32) = a := by
  have hn : k = 0 ∨ k = 1 ∨ k = 2 ∨ k = 3 ∨ k = 4 ∨ k = 5 ∨ k = 6 ∨ k = 7 ∨ k = 8 ∨ k = 9 ∨ k = 10 ∨ k = 11 ∨ k = 12 ∨ k = 13 ∨ k = 14 ∨ k = 15 ∨ k = 16 ∨ k = 17 ∨ k = 18 ∨ k = 19 ∨ k = 20 ∨ k = 21 ∨ k = 22 ∨ k = 23 ∨ k = 24 ∨ k = 25 ∨ k = 26 ∨ k = 27 ∨ k = 28 ∨ k = 29 ∨ k = 30 ∨ k = 31 := by omega
  unfold rorK
  rcases hn with rfl | rfl | rfl | rfl | rfl | rfl | rfl | rfl | rfl | rfl | rfl | rfl | rfl | rfl | rfl | rfl | rfl | rfl | rfl | rfl | rfl | rfl | rfl | rfl | rfl | rfl | rfl | rfl | rfl | rfl | rfl | rfl <;> simp <;> omega
theorem div_whole (a b : Int) (h0 : 0 ≤ a) (h1 : a ≤ 4294967295) (g0 : 0 ≤ b) (g1 : b ≤ 4294967295) (hb : divB b = true) : (divQ a b * b % 4294967296 + divR a b) % 4294967296 = a ∧ divR a b < b ∧ 0 ≤ divR a b ∧ 0 ≤ divQ a b ∧ divQ a b ≤ 4294967295 := by
  have hb' : 0 < sg b := by simpa [divB] using hb
  have eb : sg b = b := by unfold sg at hb' ⊢; split <;> split at hb' <;> omega
  have ea : sg a % 4294967296 = a := by unfold sg; split <;> omega
  have q : divQ a b = sg a / b % 4294967296 := by unfold divQ; rw [if_neg (by omega), eb]
  have r : divR a b = sg a % b := by unfold divR; rw [if_neg (by omega), eb]
  rw [q, r]
  have m1 := Int.emod_lt_of_pos (sg a) (show 0 < b by omega)
  have m2 := Int.emod_nonneg (sg a) (show b ≠ 0 by omega)
  refine ⟨?_, m1, m2, by omega, by omega⟩
  have e1 : sg a / b % 4294967296 * b % 4294967296 = sg a / b * b % 4294967296 := by
    rw [Int.mul_emod, Int.emod_emod_of_dvd _ (Int.dvd_refl _), ← Int.mul_emod]
  have e2 : sg a / b * b = sg a - sg a % b := by have := Int.mul_ediv_add_emod (sg a) b; rw [Int.mul_comm] at this; omega
  rw [e1, e2]
  omega

theorem put_got (a : Int) (f : Nat → Int) (h0 : 0 ≤ a) (h1 : a ≤ 4294967295) (hf : ∀ i, i < 4 → f i = byteOf a i) : gotW 4 f 0 = a := by
  have e : fits 4 0 = true := by decide
  unfold gotW wordAt
  rw [if_pos e]
  simp only [tgv, Int.toNat_zero, Nat.zero_add]
  rw [hf 0 (by omega), hf 1 (by omega), hf 2 (by omega), hf 3 (by omega)]
  unfold byteOf
  simp
  omega
theorem sB_hex (v : Int) (i : Nat) (hi : i < 8) : sB (hexS v 8) i = hdg v (7 - i) := by
  have hb : 0 ≤ hdg v (7 - i) ∧ hdg v (7 - i) ≤ 255 := by
    unfold hdg dg
    split <;> omega
  have e := hl_get v 8 i hi
  have hlen := hl_len v 8
  unfold sB hexS strOfNums
  rw [List.getD_eq_getElem?_getD, List.getElem?_eq_getElem (show i < (hl v 8).length by omega), Option.getD_some] at e
  simp only [List.getElem?_toArray, List.getElem?_map, List.getElem?_eq_getElem (show i < (hl v 8).length by omega), Option.map_some, Option.getD_some]
  rw [e]
  simp
  omega
theorem hex_back (v : Int) (h0 : 0 ≤ v) (h1 : v ≤ 4294967295) : unV (hexS v 8) = v ∧ unE (hexS v 8) = 0 := by
  have hs : (hexS v 8).size = 8 := (strOfNums_size _).trans (hl_len v 8)
  have hd : ∀ k, dv (hdg v k) = v / 2 ^ (4 * k) % 16 ∧ isd (hdg v k) = true := by
    intro k
    have := dv_dg (v / 2 ^ (4 * k) % 16).toNat (by omega)
    exact ⟨this.1.trans (by omega), this.2⟩
  have y := un_yes (s := hexS v 8) ⟨by omega, by omega, fun i hi => by rw [sB_hex v i (by omega)]; exact (hd _).2⟩
  refine ⟨y.1.trans ?_, y.2⟩
  have hF : ∀ i, i < 8 → unF (hexS v 8) i = v / 2 ^ (4 * i) % 16 := by
    intro i hi
    unfold unF
    rw [hs, sB_hex v _ (by omega), (hd _).1, show 7 - (8 - 1 - i) = i by omega]
  rw [hs]
  simp only [tgv]
  rw [hF 0 (by omega), hF 1 (by omega), hF 2 (by omega), hF 3 (by omega), hF 4 (by omega), hF 5 (by omega), hF 6 (by omega), hF 7 (by omega)]
  simp
  omega
end Go.Proofs.Ytjmbpehdikeiaab
