/-
  Contracts of the functions of layer 1 that move bits (the program's and the document's Lsl, Asr, Ror, Sext): each call returns the same plain number, for every word and every count.
-/
import Derived.Test.YtcppgpcgbggdcaaDoorNums
import Derived.Laws.Bits64b
namespace Go.Proofs.YtcppgpcgbggdcaaDoor
open Go.ChangeShapes Go.WideShapes Go.ChangeAt Go.RowKit

theorem wrap_u32 (n : Int) : IntKind.u32.wrap n = n % 4294967296 := by simp [IntKind.wrap, IntKind.signed, IntKind.bits]
theorem bits_or_u32_nat (a b : Nat) (ha : a < 4294967296) (hb : b < 4294967296) :
    bits .or .u32 (a : Int) (b : Int) = ((a ||| b : Nat) : Int) := by
  have hx : a ||| b < 2 ^ 32 := Nat.or_lt_two_pow (by omega) (by omega)
  have h1 : (BitVec.ofInt 32 (a : Int)).toNat = a := by
    rw [BitVec.ofInt_natCast, BitVec.toNat_ofNat]; exact Nat.mod_eq_of_lt (by omega)
  have h2 : (BitVec.ofInt 32 (b : Int)).toNat = b := by
    rw [BitVec.ofInt_natCast, BitVec.toNat_ofNat]; exact Nat.mod_eq_of_lt (by omega)
  show IntKind.u32.wrap ((BitVec.ofInt 32 (a : Int) ||| BitVec.ofInt 32 (b : Int)).toNat : Int) = _
  rw [BitVec.toNat_or, h1, h2, wrap_u32]
  omega

def lslK (a : Int) (k : Nat) : Int := a * 2 ^ k % 4294967296
def asrK (a : Int) (k : Nat) : Int := sg a / 2 ^ k % 4294967296
def rorK (a : Int) (k : Nat) : Int := a / 2 ^ k + a % 2 ^ k * 2 ^ (32 - k)
def sx (a n : Int) : Int := if a % 2 ^ n.toNat < 2 ^ (n.toNat - 1) then a % 2 ^ n.toNat else a % 2 ^ n.toNat - 2 ^ n.toNat
def sext (a n : Int) : Int := if 1 ≤ n ∧ n ≤ 32 then sx a n else 0

theorem lslK_succ (a : Int) (k : Nat) : lslK a k * 2 % 4294967296 = lslK a (k + 1) := by
  unfold lslK; rw [Int.pow_succ, ← Int.mul_assoc]; omega
theorem asrK_succ (a : Int) (k : Nat) (h0 : 0 ≤ a) (h1 : a ≤ 4294967295) : asrK a k / 2 + asrK a k / 2147483648 * 2147483648 = asrK a (k + 1) := by
  have b := sg_bd a h0 h1
  have hp : (0 : Int) < 2 ^ k := Int.pow_pos (by omega)
  have e : sg a / 2 ^ (k + 1) = sg a / 2 ^ k / 2 := by rw [Int.pow_succ, Int.ediv_ediv_of_nonneg (by omega)]
  have u1 : sg a / 2 ^ k ≤ 2147483647 := by
    by_cases hn : 0 ≤ sg a
    · have := Int.ediv_le_self (2 ^ k) hn; omega
    · have := Int.ediv_neg_of_neg_of_pos (a := sg a) (b := 2 ^ k) (by omega) hp; omega
  have l1 : -2147483648 ≤ sg a / 2 ^ k := by
    rw [Int.le_ediv_iff_mul_le hp]
    have : (1 : Int) ≤ 2 ^ k := hp
    omega
  unfold asrK; rw [e]; omega
theorem asrK_bd (a : Int) (k : Nat) : 0 ≤ asrK a k ∧ asrK a k ≤ 4294967295 := by unfold asrK; omega
theorem lslK_bd (a : Int) (k : Nat) : 0 ≤ lslK a k ∧ lslK a k ≤ 4294967295 := by unfold lslK; omega
theorem sext_eq (a n : Int) (h0 : 0 ≤ a) (h1 : a ≤ 4294967295) (g0 : 1 ≤ n) (g1 : n ≤ 32) :
    wrap64 (wrap32 (a * 2 ^ (32 - n).toNat % 4294967296) / 2 ^ (32 - n).toNat) = sx a n := by
  have hn : n = 1 ∨ n = 2 ∨ n = 3 ∨ n = 4 ∨ n = 5 ∨ n = 6 ∨ n = 7 ∨ n = 8 ∨ n = 9 ∨ n = 10 ∨ n = 11 ∨ n = 12 ∨ n = 13 ∨ n = 14 ∨ n = 15 ∨ n = 16 ∨ n = 17 ∨ n = 18 ∨ n = 19 ∨ n = 20 ∨ n = 21 ∨ n = 22 ∨ n = 23 ∨ n = 24 ∨ n = 25 ∨ n = 26 ∨ n = 27 ∨ n = 28 ∨ n = 29 ∨ n = 30 ∨ n = 31 ∨ n = 32 := by omega
  unfold wrap64 wrap32 sx
  rcases hn with rfl | rfl | rfl | rfl | rfl | rfl | rfl | rfl | rfl | rfl | rfl | rfl | rfl | rfl | rfl | rfl | rfl | rfl | rfl | rfl | rfl | rfl | rfl | rfl | rfl | rfl | rfl | rfl | rfl | rfl | rfl | rfl <;> simp <;> omega

theorem rorK_succ (a : Int) (k : Nat) (hk : k ≤ 30) : rorK a k / 2 + rorK a k % 2 * 2147483648 = rorK a (k + 1) := by
  have hn : k = 0 ∨ k = 1 ∨ k = 2 ∨ k = 3 ∨ k = 4 ∨ k = 5 ∨ k = 6 ∨ k = 7 ∨ k = 8 ∨ k = 9 ∨ k = 10 ∨ k = 11 ∨ k = 12 ∨ k = 13 ∨ k = 14 ∨ k = 15 ∨ k = 16 ∨ k = 17 ∨ k = 18 ∨ k = 19 ∨ k = 20 ∨ k = 21 ∨ k = 22 ∨ k = 23 ∨ k = 24 ∨ k = 25 ∨ k = 26 ∨ k = 27 ∨ k = 28 ∨ k = 29 ∨ k = 30 := by omega
  unfold rorK
  rcases hn with rfl | rfl | rfl | rfl | rfl | rfl | rfl | rfl | rfl | rfl | rfl | rfl | rfl | rfl | rfl | rfl | rfl | rfl | rfl | rfl | rfl | rfl | rfl | rfl | rfl | rfl | rfl | rfl | rfl | rfl | rfl <;> simp <;> omega
theorem rorK_bd (a : Int) (k : Nat) (h0 : 0 ≤ a) (h1 : a ≤ 4294967295) (hk : k ≤ 31) : 0 ≤ rorK a k ∧ rorK a k ≤ 4294967295 := by
  have hn : k = 0 ∨ k = 1 ∨ k = 2 ∨ k = 3 ∨ k = 4 ∨ k = 5 ∨ k = 6 ∨ k = 7 ∨ k = 8 ∨ k = 9 ∨ k = 10 ∨ k = 11 ∨ k = 12 ∨ k = 13 ∨ k = 14 ∨ k = 15 ∨ k = 16 ∨ k = 17 ∨ k = 18 ∨ k = 19 ∨ k = 20 ∨ k = 21 ∨ k = 22 ∨ k = 23 ∨ k = 24 ∨ k = 25 ∨ k = 26 ∨ k = 27 ∨ k = 28 ∨ k = 29 ∨ k = 30 ∨ k = 31 := by omega
  unfold rorK
  rcases hn with rfl | rfl | rfl | rfl | rfl | rfl | rfl | rfl | rfl | rfl | rfl | rfl | rfl | rfl | rfl | rfl | rfl | rfl | rfl | rfl | rfl | rfl | rfl | rfl | rfl | rfl | rfl | rfl | rfl | rfl | rfl | rfl <;> simp <;> omega
theorem ror_or (a : Int) (k : Nat) (h0 : 0 ≤ a) (h1 : a ≤ 4294967295) (hk : k ≤ 31) : bits .or .u32 (a / 2 ^ k) (a * 2 ^ (32 - k) % 4294967296) = rorK a k := by
  obtain ⟨m, rfl⟩ := Int.eq_ofNat_of_zero_le h0
  have e1 : (m : Int) / 2 ^ k = ((m / 2 ^ k : Nat) : Int) := by simp
  have e2 : (m : Int) * 2 ^ (32 - k) % 4294967296 = ((m * 2 ^ (32 - k) % 4294967296 : Nat) : Int) := by simp
  have hp : (4294967296 : Nat) = 2 ^ (32 - k) * 2 ^ k := by rw [← Nat.pow_add, show 32 - k + k = 32 by omega]
  have e3 : m * 2 ^ (32 - k) % 4294967296 = 2 ^ (32 - k) * (m % 2 ^ k) := by rw [hp, Nat.mul_comm m, Nat.mul_mod_mul_left]
  have l1 : m / 2 ^ k < 2 ^ (32 - k) := by
    rw [Nat.div_lt_iff_lt_mul (Nat.two_pow_pos k), ← hp]; omega
  have l2 : m / 2 ^ k < 4294967296 := Nat.lt_of_le_of_lt (Nat.div_le_self _ _) (by omega)
  rw [e1, e2, bits_or_u32_nat _ _ l2 (Nat.mod_lt _ (by omega)), e3, Nat.or_comm, ← Nat.two_pow_add_eq_or_of_lt l1]
  unfold rorK
  rw [e1]
  have e4 : (m : Int) % 2 ^ k = ((m % 2 ^ k : Nat) : Int) := by simp
  rw [e4, Int.natCast_add, Int.natCast_mul, Int.mul_comm, Int.add_comm]
  simp

theorem sext_any (a n : Int) (w : World) (h0 : 0 ≤ a) (h1 : a ≤ 4294967295) :
    Calls Tryd.prog 90 #[.int .u32 a, .int .i64 n] w fun e w' => e = .returned (.int .i64 (sext a n)) ∧ w' = w := by
  by_cases hn : 1 ≤ n ∧ n ≤ 32
  · obtain ⟨g0, g1⟩ := hn
    go_enter Tryd.func90, Tryd.ntmps90
    go_wp2
    go_ret
    exact ⟨ret_int (by unfold sext; rw [if_pos ⟨g0, g1⟩]; exact sext_eq a n h0 h1 g0 g1), rfl⟩
  · have H : Hid (sext a n = 0) := if_neg hn
    by_cases h : n < 1
    · go_enter Tryd.func90, Tryd.ntmps90
      go_wp2
      go_ret
      exact ⟨ret_int H.out.symm, rfl⟩
    · have h' : 32 < n := by omega
      go_enter Tryd.func90, Tryd.ntmps90
      go_wp2
      go_ret
      exact ⟨ret_int H.out.symm, rfl⟩

theorem pow_bd (k : Nat) (h : k ≤ 32) : 1 ≤ (2 : Int) ^ k ∧ (2 : Int) ^ k ≤ 4294967296 := by
  have h1 : (2 : Nat) ^ k ≤ 2 ^ 32 := Nat.pow_le_pow_right (by omega) h
  have h2 : 0 < (2 : Nat) ^ k := Nat.two_pow_pos k
  have e : (2 : Int) ^ k = ((2 ^ k : Nat) : Int) := by simp
  omega
end Go.Proofs.YtcppgpcgbggdcaaDoor
