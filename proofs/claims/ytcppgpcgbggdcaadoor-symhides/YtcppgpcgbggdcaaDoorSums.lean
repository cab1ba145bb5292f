/-
  Contracts of the functions of layer 1 that sum over bytes (the program's and the document's Sum): each call returns the same plain number, for every row of bytes.
-/
import Derived.Test.YtcppgpcgbggdcaaDoorMoves
namespace Go.Proofs.YtcppgpcgbggdcaaDoor
open Go.ChangeShapes Go.WideShapes Go.ChangeAt Go.RowKit

/-- What a contract is told of a row of bytes that is only read: it has no element, or its elements lie in a row of cells. -/
def RdB (w : World) (a : Option Addr) (len : Nat) (f : Nat → Int) : Prop :=
  len ≤ maxLen ∧ (len = 0 ∨ ∃ b off, a = some ⟨b, off, none⟩ ∧ ∀ i, i < len → w.cell? ⟨b, off + i, none⟩ = some (.int .u8 (f i)) ∧ 0 ≤ f i ∧ f i ≤ 255)

theorem bits_xor_u32_nat (a b : Nat) (ha : a < 4294967296) (hb : b < 4294967296) :
    bits .xor .u32 (a : Int) (b : Int) = ((a ^^^ b : Nat) : Int) := by
  have hx : a ^^^ b < 2 ^ 32 := Nat.xor_lt_two_pow (by omega) (by omega)
  have h1 : (BitVec.ofInt 32 (a : Int)).toNat = a := by
    rw [BitVec.ofInt_natCast, BitVec.toNat_ofNat]; exact Nat.mod_eq_of_lt (by omega)
  have h2 : (BitVec.ofInt 32 (b : Int)).toNat = b := by
    rw [BitVec.ofInt_natCast, BitVec.toNat_ofNat]; exact Nat.mod_eq_of_lt (by omega)
  show IntKind.u32.wrap ((BitVec.ofInt 32 (a : Int) ^^^ BitVec.ofInt 32 (b : Int)).toNat : Int) = _
  rw [BitVec.toNat_xor, h1, h2, wrap_u32]
  omega

theorem xor_low (h x : Nat) (hx : x < 256) : h ^^^ x = h / 256 * 256 + (h % 256 ^^^ x) := by
  have hl : (h % 256 ^^^ x) < 2 ^ 8 := Nat.xor_lt_two_pow (by omega) (by omega)
  rw [show h / 256 * 256 + (h % 256 ^^^ x) = 2 ^ 8 * (h / 2 ^ 8) + (h % 256 ^^^ x) by omega]
  apply Nat.eq_of_testBit_eq
  intro i
  rw [Nat.testBit_two_pow_mul_add _ hl, Nat.testBit_xor]
  by_cases hi : i < 8
  · rw [if_pos hi, Nat.testBit_xor, show (256 : Nat) = 2 ^ 8 by rfl, Nat.testBit_mod_two_pow]; simp [hi]
  · rw [if_neg hi, Nat.testBit_div_two_pow, show i - 8 + 8 = i by omega]
    have : x.testBit i = false := Nat.testBit_lt_two_pow (Nat.lt_of_lt_of_le (show x < 2 ^ 8 by omega) (Nat.pow_le_pow_right (by omega) (by omega)))
    rw [this]; simp

theorem xor_both (h x : Int) (h0 : 0 ≤ h) (h1 : h ≤ 4294967295) (x0 : 0 ≤ x) (x1 : x ≤ 255) :
    h / 256 * 256 + bits .xor .u64 (h % 256) x = bits .xor .u32 h x ∧ 0 ≤ bits .xor .u64 (h % 256) x ∧ bits .xor .u64 (h % 256) x ≤ 255 := by
  obtain ⟨m, rfl⟩ := Int.eq_ofNat_of_zero_le h0
  obtain ⟨y, rfl⟩ := Int.eq_ofNat_of_zero_le x0
  have hl : (m % 256 ^^^ y) < 2 ^ 8 := Nat.xor_lt_two_pow (by omega) (by omega)
  rw [show (m : Int) % 256 = ((m % 256 : Nat) : Int) by simp, bits_xor_u64_nat _ _ (by omega) (by omega), bits_xor_u32_nat _ _ (by omega) (by omega), xor_low m y (by omega)]
  omega

def fnv (f : Nat → Int) : Nat → Int
  | 0 => 2166136261
  | k + 1 => bits .xor .u32 (fnv f k) (f k) * 16777619 % 4294967296
theorem fnv_bd (f : Nat → Int) (k : Nat) : 0 ≤ fnv f k ∧ fnv f k ≤ 4294967295 := by
  cases k with
  | zero => simp [fnv]
  | succ k => simp only [fnv]; omega

theorem sum_any (a : Option Addr) (len cap : Nat) (f : Nat → Int) (w : World) (hr : RdB w a len f) :
    Calls Tryd.prog 33 #[.slice a len cap] w fun e w' => e = .returned (.int .u32 (fnv f len)) ∧ w' = w := by
  obtain ⟨hm, hr⟩ := hr
  unfold maxLen at hm
  have hc : ∀ k, k < len → ∃ b off, a = some ⟨b, off, none⟩ ∧ w.cell? ⟨b, off + k, none⟩ = some (.int .u8 (f k)) ∧ 0 ≤ f k ∧ f k ≤ 255 := by
    intro k hk
    rcases hr with h | ⟨b, off, rfl, h⟩
    · omega
    · exact ⟨b, off, rfl, h k hk⟩
  clear hr
  go_enter Tryd.func33, Tryd.ntmps33
  go_wp2
  go_loop [3, 7] (fun h i => ∃ k : Nat, k ≤ len ∧ i = .int .i64 k ∧ h = .int .u32 (fnv f k)) (fun _ i => len - (intOf i).toNat)
  case atStart => exact ⟨0, Nat.zero_le _, rfl, rfl⟩
  case round =>
    obtain ⟨k, hk, rfl, rfl⟩ := hrel
    have hb := fnv_bd f k
    by_cases hlt : k < len
    · obtain ⟨b, off, rfl, hcell, x0, x1⟩ := hc k hlt
      clear hc
      go_wp2
      go_round
      case rel => exact ⟨k + 1, by omega, by go_num, by rw [fnv]⟩
      case measure => simp [intOf]; omega
    · clear hc
      go_wp2
      go_ret
      exact ⟨ret_int (by rw [show len = k by omega]), rfl⟩

theorem rsum_any (a : Option Addr) (len cap : Nat) (f : Nat → Int) (w : World) (hr : RdB w a len f) :
    Calls Tryd.prog 34 #[.slice a len cap] w fun e w' => e = .returned (.int .u32 (fnv f len)) ∧ w' = w := by
  obtain ⟨hm, hr⟩ := hr
  unfold maxLen at hm
  have hc : ∀ k, k < len → ∃ b off, a = some ⟨b, off, none⟩ ∧ w.cell? ⟨b, off + k, none⟩ = some (.int .u8 (f k)) ∧ 0 ≤ f k ∧ f k ≤ 255 := by
    intro k hk
    rcases hr with h | ⟨b, off, rfl, h⟩
    · omega
    · exact ⟨b, off, rfl, h k hk⟩
  clear hr
  go_enter Tryd.func34, Tryd.ntmps34
  go_wp2
  go_loop [3, 4] (fun h i => ∃ k : Nat, k ≤ len ∧ i = .int .i64 k ∧ h = .int .u64 (fnv f k)) (fun _ i => len - (intOf i).toNat)
  case atStart => exact ⟨0, Nat.zero_le _, rfl, rfl⟩
  case round =>
    obtain ⟨k, hk, rfl, rfl⟩ := hrel
    have hb := fnv_bd f k
    by_cases hlt : k < len
    · obtain ⟨b, off, rfl, hcell, x0, x1⟩ := hc k hlt
      obtain ⟨X, X0, X1⟩ := xor_both (fnv f k) (f k) hb.1 hb.2 x0 x1
      have H : Hid (fnv f k / 256 * 256 + bits .xor .u64 (fnv f k % 256) (f k) = bits .xor .u32 (fnv f k) (f k)) := X
      clear hc X
      go_wp2
      go_round
      case rel => exact ⟨k + 1, by omega, by go_num, by rw [fnv, ← H.out]⟩
      case measure => simp [intOf]; omega
    · clear hc
      go_wp2
      go_ret
      exact ⟨ret_int (by rw [show len = k by omega]), rfl⟩

theorem rdb_of_row {w : World} {a : Option Addr} {len cap : Nat} {zs : List Int}
    (h : (a = none ∧ len = 0 ∧ cap = 0 ∧ zs = []) ∨ ∃ x, a = some x ∧ len ≤ cap ∧ cap ≤ maxLen ∧ zs.length = cap ∧ (∀ i, i < zs.length → w.cell? (x.add i) = some (.int .u8 (zs.getD i 0))) ∧ ∀ n ∈ zs, (Lit.int .u8 n).wf = true) :
    RdB w a len (fun i => zs.getD i 0) := by
  rcases h with ⟨rfl, rfl, rfl, rfl⟩ | ⟨x, rfl, hl, hm, hz, hcell, hwz⟩
  · exact ⟨Nat.zero_le _, .inl rfl⟩
  · refine ⟨Nat.le_trans hl hm, ?_⟩
    by_cases h0 : len = 0
    · exact .inl h0
    · right
      obtain ⟨b, off, spot⟩ := x
      have hc := hcell 0 (by omega)
      have hspot : spot = none := by simpa [Addr.add] using World.cell?_spot hc
      subst hspot
      refine ⟨b, off, rfl, fun i hi => ?_⟩
      have h1 := hcell i (by omega)
      have h2 : zs.getD i 0 ∈ zs := by
        rw [List.getD_eq_getElem?_getD, List.getElem?_eq_getElem (show i < zs.length by omega)]
        exact List.getElem_mem _
      refine ⟨?_, bounds_u8 (hwz _ h2)⟩
      by_cases hi0 : i = 0
      · subst hi0; simpa [Addr.add] using h1
      · simpa [Addr.add, hi0] using h1
end Go.Proofs.YtcppgpcgbggdcaaDoor
