/-
  Contracts of the functions of layer 1 that read words out of bytes (the program's holdsWord, together, Get and the document's Get): each call returns the same plain word, for every row of bytes and every place.
-/
import Derived.Test.YtcppgpcgbggdcaaDoorSums
import Derived.Deep.RegionHeld3
import Derived.Deep.DrawnRows
import Derived.Laws.CopyOwn
namespace Go.Proofs.YtcppgpcgbggdcaaDoor
open Go.ChangeShapes Go.WideShapes Go.ChangeAt Go.RowKit

def fits (len : Nat) (at_ : Int) : Bool := decide (0 ≤ at_ ∧ at_ ≤ (len : Int) - 4)
theorem holdsWord_any (a : Option Addr) (len cap : Nat) (at_ : Int) (w : World) (hl : len ≤ maxLen) :
    Calls Tryd.prog 105 #[.slice a len cap, .int .i64 at_] w fun e w' => e = .returned (.bool (fits len at_)) ∧ w' = w := by
  unfold maxLen at hl
  go_enter Tryd.func105, Tryd.ntmps105
  go_wp2
  all_goals go_ret
  all_goals exact ⟨ret_bool (by unfold fits; simp; try omega), rfl⟩

def tgv (B : Int) (f : Nat → Int) : Nat → Int
  | 0 => 0
  | k + 1 => tgv B f k + f k * B ^ k

theorem tgv_bd8 (f : Nat → Int) (n : Nat) (hf : ∀ i, i < n → 0 ≤ f i ∧ f i ≤ 255) : ∀ k, k ≤ n → 0 ≤ tgv 256 f k ∧ tgv 256 f k < 256 ^ k
  | 0, _ => by simp [tgv]
  | k + 1, h => by
    have ih := tgv_bd8 f n hf k (by omega)
    have hk := hf k (by omega)
    have hp : (0 : Int) < 256 ^ k := Int.pow_pos (by omega)
    have h1 : 0 ≤ f k * 256 ^ k := Int.mul_nonneg hk.1 (by omega)
    have h2 : f k * 256 ^ k ≤ 255 * 256 ^ k := Int.mul_le_mul_of_nonneg_right hk.2 (by omega)
    simp only [tgv, Int.pow_succ]
    omega

theorem or_place (T x : Int) (s : Nat) (hT0 : 0 ≤ T) (hT : T < 2 ^ s) (hT1 : T ≤ 4294967295) (hx0 : 0 ≤ x) (hx : x * 2 ^ s ≤ 4294967295) : bits .or .u32 T (x * 2 ^ s % 4294967296) = T + x * 2 ^ s := by
  obtain ⟨t, rfl⟩ := Int.eq_ofNat_of_zero_le hT0
  obtain ⟨y, rfl⟩ := Int.eq_ofNat_of_zero_le hx0
  have e : (y : Int) * 2 ^ s = ((y * 2 ^ s : Nat) : Int) := by simp
  have e2 : (2 : Int) ^ s = ((2 ^ s : Nat) : Int) := by simp
  rw [e] at hx
  rw [e2] at hT
  rw [e, show ((y * 2 ^ s : Nat) : Int) % 4294967296 = ((y * 2 ^ s : Nat) : Int) by omega, bits_or_u32_nat _ _ (by omega) (by omega), Nat.or_comm, Nat.mul_comm, ← Nat.two_pow_add_eq_or_of_lt (by omega)]
  simp; omega

theorem or_step8 (f : Nat → Int) (k : Nat) (hk : k ≤ 3) (hb : 0 ≤ tgv 256 f k ∧ tgv 256 f k < 256 ^ k) (x0 : 0 ≤ f k) (x1 : f k ≤ 255) :
    bits .or .u32 (tgv 256 f k) (f k * 2 ^ (8 * k) % 4294967296) = tgv 256 f (k + 1) := by
  have e : (256 : Int) ^ k = 2 ^ (8 * k) := by rw [Int.pow_mul]; rfl
  have h1 : f k * 256 ^ k ≤ 255 * 256 ^ k := Int.mul_le_mul_of_nonneg_right x1 (Int.le_of_lt (Int.pow_pos (by omega)))
  have h2 : (256 : Int) ^ k ≤ 16777216 := by
    have : k = 0 ∨ k = 1 ∨ k = 2 ∨ k = 3 := by omega
    rcases this with rfl | rfl | rfl | rfl <;> simp
  rw [or_place _ _ _ hb.1 (by rw [← e]; exact hb.2) (by omega) x0 (by rw [← e]; omega), tgv, e]

theorem together8_any (a : Option Addr) (len cap : Nat) (f : Nat → Int) (w : World) (hr : RdB w a len f) (hl : len ≤ 4) :
    Calls Tryd.prog 106 #[.int .i64 8, .slice a len cap] w fun e w' => e = .returned (.int .u32 (tgv 256 f len)) ∧ w' = w := by
  obtain ⟨hm, hr⟩ := hr
  have hc : ∀ k, k < len → ∃ b off, a = some ⟨b, off, none⟩ ∧ w.cell? ⟨b, off + k, none⟩ = some (.int .u8 (f k)) ∧ 0 ≤ f k ∧ f k ≤ 255 := by
    intro k hk
    rcases hr with h | ⟨b, off, rfl, h⟩
    · omega
    · exact ⟨b, off, rfl, h k hk⟩
  clear hr hm
  go_enter Tryd.func106, Tryd.ntmps106
  go_wp2
  go_loop [5, 9] (fun h i => ∃ k : Nat, k ≤ len ∧ i = .int .i64 k ∧ h = .int .u32 (tgv 256 f k)) (fun _ i => len - (intOf i).toNat)
  case atStart => exact ⟨0, Nat.zero_le _, rfl, rfl⟩
  case round =>
    obtain ⟨k, hk, rfl, rfl⟩ := hrel
    have hb := tgv_bd8 f len (fun i hi => by obtain ⟨_, _, _, _, h⟩ := hc i hi; exact h) k hk
    by_cases hlt : k < len
    · obtain ⟨b, off, rfl, hcell, x0, x1⟩ := hc k hlt
      have H : Hid (bits .or .u32 (tgv 256 f k) (f k * 2 ^ (8 * k) % 4294967296) = tgv 256 f (k + 1)) := or_step8 f k (by omega) hb x0 x1
      clear hc
      go_wp2
      go_round
      case rel => exact ⟨k + 1, by omega, by go_num, by rw [H.out]⟩
      case measure => simp [intOf]; omega
    · clear hc
      go_wp2
      go_ret
      exact ⟨ret_int (by rw [show len = k by omega]), rfl⟩

theorem rdb_four (W : World) (T : TypeId) (f : Nat → Int) (hf : ∀ i, i < 4 → 0 ≤ f i ∧ f i ≤ 255) : RdB (W.alloc (.cells #[.int .u8 (f 0), .int .u8 (f 1), .int .u8 (f 2), .int .u8 (f 3)] T)) (some ⟨W.heap.size, 0, none⟩) 4 f := by
  refine ⟨by unfold maxLen; omega, .inr ⟨_, _, rfl, fun i hi => ⟨?_, hf i hi⟩⟩⟩
  rw [Nat.zero_add, World.cell?_alloc_new]
  have : i = 0 ∨ i = 1 ∨ i = 2 ∨ i = 3 := by omega
  rcases this with rfl | rfl | rfl | rfl <;> rfl
theorem rdb_four_drew (W : World) (T : TypeId) (f : Nat → Int) (hf : ∀ i, i < 4 → 0 ≤ f i ∧ f i ≤ 255) : RdB (W.alloc (.cells #[.int .u8 (f 0), .int .u8 (f 1), .int .u8 (f 2), .int .u8 (f 3)] T)).drew (some ⟨W.heap.size, 0, none⟩) 4 f := rdb_four W T f hf
def wordAt (f : Nat → Int) (at_ : Int) : Int := tgv 256 (fun i => f (at_.toNat + i)) 4
def gotW (len : Nat) (f : Nat → Int) (at_ : Int) : Int := if fits len at_ then wordAt f at_ else 0
theorem ret2b {a a' : Int} {b b' : Bool} (h : a = a') (g : b = b') : Ending.returned (.tuple #[.int .u32 a, .bool b]) = .returned (.tuple #[.int .u32 a', .bool b']) := by rw [h, g]
set_option maxHeartbeats 1000000 in
theorem get_any (a : Option Addr) (len cap : Nat) (f : Nat → Int) (at_ : Int) (w : World) (hr : RdB w a len f) :
    Calls Tryd.prog 102 #[.slice a len cap, .int .i64 at_] w fun e w' => e = .returned (.tuple #[.int .u32 (gotW len f at_), .bool (fits len at_)]) ∧ Below w.heap.size w w' := by
  have hm := hr.1
  by_cases hf : fits len at_ = true
  · have hf' := hf
    simp only [fits, decide_eq_true_eq] at hf'
    obtain ⟨p, rfl⟩ := Int.eq_ofNat_of_zero_le hf'.1
    rcases hr.2 with h0 | ⟨b, off, rfl, hc⟩
    · omega
    · have l0 := hc p (by omega)
      have l1 := hc (p + 1) (by omega)
      have l2 := hc (p + 2) (by omega)
      have l3 := hc (p + 3) (by omega)
      rw [show off + (p + 2) = off + ((p : Int) + 2).toNat by omega] at l2
      rw [show off + (p + 3) = off + ((p : Int) + 3).toNat by omega] at l3
      have H : Hid (gotW len f p = wordAt f p) := if_pos hf
      have hb4 : ∀ i, i < 4 → 0 ≤ f (p + i) ∧ f (p + i) ≤ 255 := fun i hi => (hc (p + i) (by omega)).2
      have hlt : p + 3 < len := by omega
      unfold maxLen at hm
      rw [H.out]
      clear hc hr
      have k0 : (0 : Int) ≤ (p : Int) := by omega
      have k1 : (p : Int) < (len : Int) := by omega
      have k2 : (0 : Int) ≤ (p : Int) + 1 := by omega
      have k3 : (p : Int) + 1 < (len : Int) := by omega
      have k4 : (0 : Int) ≤ (p : Int) + 2 := by omega
      have k5 : (p : Int) + 2 < (len : Int) := by omega
      have k6 : (0 : Int) ≤ (p : Int) + 3 := by omega
      have k7 : (p : Int) + 3 < (len : Int) := by omega
      have e1 : IntKind.i64.wrap ((p : Int) + 1) = p + 1 := by rw [IntWalk.i64_left, IntWalk.wrap64_in]; omega
      have e2 : IntKind.i64.wrap ((p : Int) + 2) = p + 2 := by rw [IntWalk.i64_left, IntWalk.wrap64_in]; omega
      have e3 : IntKind.i64.wrap ((p : Int) + 3) = p + 3 := by rw [IntWalk.i64_left, IntWalk.wrap64_in]; omega
      go_enter Tryd.func102, Tryd.ntmps102
      go_wp2_with (go_at_call 105; refine (holdsWord_any _ _ _ _ _ (by unfold maxLen; omega)).mono ?_; rw [hf]; rintro e w' ⟨rfl, rfl⟩)
      go_region_held3 (fun w' => w'.cell? ⟨b, off + p, none⟩ = some (.int .u8 (f p)) ∧ w'.cell? ⟨b, off + (p + 1), none⟩ = some (.int .u8 (f (p + 1))) ∧ w'.cell? ⟨b, off + ((p : Int) + 2).toNat, none⟩ = some (.int .u8 (f (p + 2))) ∧ w'.cell? ⟨b, off + ((p : Int) + 3).toNat, none⟩ = some (.int .u8 (f (p + 3)))) (go_keep) (first | (go_at_call 106; refine (together8_any _ _ _ (fun i => f (p + i)) _ (rdb_four_drew _ _ (fun i => f (p + i)) hb4) (by omega)).mono ?_; rintro e w1 ⟨rfl, rfl⟩))
      all_goals go_wp2
      all_goals go_ret2
      all_goals exact ⟨ret2b rfl hf.symm, ((Below.refl _ _).alloc (Nat.le_refl _) _).drew⟩
  · have hf0 : fits len at_ = false := by simpa using hf
    have H : Hid (gotW len f at_ = 0) := if_neg hf
    rw [H.out]
    clear hr
    go_enter Tryd.func102, Tryd.ntmps102
    go_wp2_with (go_at_call 105; refine (holdsWord_any _ _ _ _ _ hm).mono ?_; rw [hf0]; rintro e w' ⟨rfl, rfl⟩)
    go_ret2
    exact ⟨ret2b rfl hf0.symm, Below.refl _ _⟩

theorem rget_any (a : Option Addr) (len cap : Nat) (f : Nat → Int) (at_ : Int) (w : World) (hr : RdB w a len f) (ha : -9223372036854775808 ≤ at_ ∧ at_ ≤ 9223372036854775807) :
    Calls Tryd.prog 75 #[.slice a len cap, .int .i64 at_] w fun e w' => e = .returned (.tuple #[.int .u32 (gotW len f at_), .bool (fits len at_)]) ∧ w' = w := by
  have hm := hr.1
  unfold maxLen at hm
  by_cases hf : fits len at_ = true
  · have hf' := hf
    simp only [fits, decide_eq_true_eq] at hf'
    obtain ⟨p, rfl⟩ := Int.eq_ofNat_of_zero_le hf'.1
    rcases hr.2 with h0 | ⟨b, off, rfl, hc⟩
    · omega
    · have H : Hid (gotW len f p = wordAt f p) := if_pos hf
      rw [H.out]
      have HF : Hid (fits len (p : Int) = true) := hf
      clear hr H hf
      go_enter Tryd.func75, Tryd.ntmps75
      go_wp2
      go_loop [6, 7] (fun x i => ∃ k : Nat, k ≤ 4 ∧ i = .int .i64 (3 - (k : Int)) ∧ x = .int .u32 (if k = 0 then 0 else if k = 1 then f (p + 3) else if k = 2 then f (p + 3) * 256 + f (p + 2) else if k = 3 then (f (p + 3) * 256 + f (p + 2)) * 256 + f (p + 1) else ((f (p + 3) * 256 + f (p + 2)) * 256 + f (p + 1)) * 256 + f p)) (fun _ i => (intOf i + 1).toNat)
      case atStart => exact ⟨0, by omega, rfl, rfl⟩
      case round =>
        obtain ⟨k, hk, rfl, rfl⟩ := hrel
        have l0 := hc p (by omega)
        have l1 := hc (p + 1) (by omega)
        have l2 := hc (p + 2) (by omega)
        have l3 := hc (p + 3) (by omega)
        clear hc
        have : k = 0 ∨ k = 1 ∨ k = 2 ∨ k = 3 ∨ k = 4 := by omega
        rcases this with rfl | rfl | rfl | rfl | rfl
        · go_wp2
          go_round
          case rel => exact ⟨1, by omega, by go_num, by go_num⟩
          case measure => simp [intOf]
        · go_wp2
          go_round
          case rel => exact ⟨2, by omega, by go_num, by go_num⟩
          case measure => simp [intOf]
        · go_wp2
          go_round
          case rel => exact ⟨3, by omega, by go_num, by go_num⟩
          case measure => simp [intOf]
        · go_wp2
          go_round
          case rel => exact ⟨4, by omega, by go_num, by go_num⟩
          case measure => simp [intOf]
        · go_wp2
          go_ret2
          exact ⟨ret2b (by simp [wordAt, tgv]; omega) HF.out.symm, rfl⟩
  · have HF : Hid (fits len at_ = false) := by show fits len at_ = false; simpa using hf
    have H : Hid (gotW len f at_ = 0) := if_neg hf
    rw [H.out]
    have hf' : at_ < 0 ∨ (0 ≤ at_ ∧ (len : Int) < 4) ∨ (0 ≤ at_ ∧ 4 ≤ (len : Int) ∧ (len : Int) - 4 < at_) := by simp [fits] at hf; omega
    clear hr H hf
    rcases hf' with h | ⟨h, h2⟩ | ⟨h, h2, h3⟩
    all_goals
      go_enter Tryd.func75, Tryd.ntmps75
      go_wp2
      go_ret2
      exact ⟨ret2b rfl HF.out.symm, rfl⟩
end Go.Proofs.YtcppgpcgbggdcaaDoor
