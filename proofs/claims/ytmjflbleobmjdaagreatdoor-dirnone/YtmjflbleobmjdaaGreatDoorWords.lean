/-
  Words in rows of bytes: how they are read and laid.
-/
import Derived.Test.YtmjflbleobmjdaaGreatDoorRows2
import Derived.Deep.DrawnRows
import Derived.Laws.Bits64b
import Derived.Laws.CopyOwn
namespace Go.Proofs.YtmjflbleobmjdaaGreatDoor
open Go.ChangeShapes Go.WideShapes Go.ChangeAt Go.RowKit
attribute [local go_sem ↓] loadSec_seal storeSec_seal eqlSec_seal zeroSec
attribute [local go_sem] loadSec_run storeSec_run rowAt_at rowAt_old rowAt_drew rowAt_drewN roomSec_new roomAt_old roomAt_drew roomAt_drewN putSec_new putRow_past rowSec_put size_put putRow_drew putRow_drewN alloc_drewN setCell_drewN sec_size

set_option linter.unusedVariables false

theorem ret_int {k : IntKind} {a b : Int} (h : a = b) : Ending.returned (.int k a) = .returned (.int k b) := by rw [h]
theorem ret_bool {a b : Bool} (h : a = b) : Ending.returned (.bool a) = .returned (.bool b) := by rw [h]
theorem wrap_u32 (n : Int) : IntKind.u32.wrap n = n % 4294967296 := by simp [IntKind.wrap, IntKind.signed, IntKind.bits]
theorem bits_or_u32_nat (a b : Nat) (ha : a < 4294967296) (hb : b < 4294967296) :
    bits .or .u32 (a : Int) (b : Int) = ((a ||| b : Nat) : Int) := by
  have hx : a ||| b < 2 ^ 32 := Nat.or_lt_two_pow (by omega) (by omega)
  have h1 : (BitVec.ofInt 32 (a : Int)).toNat = a := by
    rw [BitVec.ofInt_natCast, BitVec.toNat_ofNat]; exact Nat.mod_eq_of_lt (by omega)
  have h2 : (BitVec.ofInt 32 (b : Int)).toNat = b := by
    rw [BitVec.ofInt_natCast, BitVec.toNat_ofNat]; exact Nat.mod_eq_of_lt (by omega)
  show IntKind.u32.wrap ((BitVec.ofInt 32 (a : Int) ||| BitVec.ofInt 32 (b : Int)).toNat : Int) = _
  rw [BitVec.toNat_or, h1, h2, wrap_u32]
  omega
def fits (len : Nat) (at_ : Int) : Bool := decide (0 ≤ at_ ∧ at_ ≤ (len : Int) - 4)
theorem holdsWord_any (a : Option Addr) (len cap : Nat) (at_ : Int) (w : World) (hl : len ≤ maxLen) :
    Calls Tryz.prog 79 #[.slice a len cap, .int .i64 at_] w fun e w' => e = .returned (.bool (fits len at_)) ∧ w' = w := by
  unfold maxLen at hl
  go_enter Tryz.func79, Tryz.ntmps79
  go_wp2
  all_goals go_ret
  all_goals exact ⟨ret_bool (by unfold fits; simp; try omega), rfl⟩

def tgv (B : Int) (f : Nat → Int) : Nat → Int
  | 0 => 0
  | k + 1 => tgv B f k + f k * B ^ k

theorem tgv_bd8 (f : Nat → Int) (n : Nat) (hf : ∀ i, i < n → 0 ≤ f i ∧ f i ≤ 255) : ∀ k, k ≤ n → 0 ≤ tgv 256 f k ∧ tgv 256 f k < 256 ^ k
  | 0, _ => by simp [tgv]
  | k + 1, h => by
    have ih := tgv_bd8 f n hf k (by omega)
    have hk := hf k (by omega)
    have hp : (0 : Int) < 256 ^ k := Int.pow_pos (by omega)
    have h1 : 0 ≤ f k * 256 ^ k := Int.mul_nonneg hk.1 (by omega)
    have h2 : f k * 256 ^ k ≤ 255 * 256 ^ k := Int.mul_le_mul_of_nonneg_right hk.2 (by omega)
    simp only [tgv, Int.pow_succ]
    omega

theorem or_place (T x : Int) (s : Nat) (hT0 : 0 ≤ T) (hT : T < 2 ^ s) (hT1 : T ≤ 4294967295) (hx0 : 0 ≤ x) (hx : x * 2 ^ s ≤ 4294967295) : bits .or .u32 T (x * 2 ^ s % 4294967296) = T + x * 2 ^ s := by
  obtain ⟨t, rfl⟩ := Int.eq_ofNat_of_zero_le hT0
  obtain ⟨y, rfl⟩ := Int.eq_ofNat_of_zero_le hx0
  have e : (y : Int) * 2 ^ s = ((y * 2 ^ s : Nat) : Int) := by simp
  have e2 : (2 : Int) ^ s = ((2 ^ s : Nat) : Int) := by simp
  rw [e] at hx
  rw [e2] at hT
  rw [e, show ((y * 2 ^ s : Nat) : Int) % 4294967296 = ((y * 2 ^ s : Nat) : Int) by omega, bits_or_u32_nat _ _ (by omega) (by omega), Nat.or_comm, Nat.mul_comm, ← Nat.two_pow_add_eq_or_of_lt (by omega)]
  simp; omega

theorem or_step8 (f : Nat → Int) (k : Nat) (hk : k ≤ 3) (hb : 0 ≤ tgv 256 f k ∧ tgv 256 f k < 256 ^ k) (x0 : 0 ≤ f k) (x1 : f k ≤ 255) :
    bits .or .u32 (tgv 256 f k) (f k * 2 ^ (8 * k) % 4294967296) = tgv 256 f (k + 1) := by
  have e : (256 : Int) ^ k = 2 ^ (8 * k) := by rw [Int.pow_mul]; rfl
  have h1 : f k * 256 ^ k ≤ 255 * 256 ^ k := Int.mul_le_mul_of_nonneg_right x1 (Int.le_of_lt (Int.pow_pos (by omega)))
  have h2 : (256 : Int) ^ k ≤ 16777216 := by
    have : k = 0 ∨ k = 1 ∨ k = 2 ∨ k = 3 := by omega
    rcases this with rfl | rfl | rfl | rfl <;> simp
  rw [or_place _ _ _ hb.1 (by rw [← e]; exact hb.2) (by omega) x0 (by rw [← e]; omega), tgv, e]

theorem together8_any (a : Option Addr) (len cap : Nat) (f : Nat → Int) (w : World) (hr : RdB w a len f) (hl : len ≤ 4) :
    Calls Tryz.prog 95 #[.int .i64 8, .slice a len cap] w fun e w' => e = .returned (.int .u32 (tgv 256 f len)) ∧ w' = w := by
  obtain ⟨hm, hr⟩ := hr
  have hc : ∀ k, k < len → ∃ b off, a = some ⟨b, off, none⟩ ∧ w.cell? ⟨b, off + k, none⟩ = some (.int .u8 (f k)) ∧ 0 ≤ f k ∧ f k ≤ 255 := by
    intro k hk
    rcases hr with h | ⟨b, off, rfl, h⟩
    · omega
    · exact ⟨b, off, rfl, h k hk⟩
  clear hr hm
  go_enter Tryz.func95, Tryz.ntmps95
  go_wp2
  go_loop [5, 9] (fun h i => ∃ k : Nat, k ≤ len ∧ i = .int .i64 k ∧ h = .int .u32 (tgv 256 f k)) (fun _ i => len - (intOf i).toNat)
  case atStart => exact ⟨0, Nat.zero_le _, rfl, rfl⟩
  case round =>
    obtain ⟨k, hk, rfl, rfl⟩ := hrel
    have hb := tgv_bd8 f len (fun i hi => by obtain ⟨_, _, _, _, h⟩ := hc i hi; exact h) k hk
    by_cases hlt : k < len
    · obtain ⟨b, off, rfl, hcell, x0, x1⟩ := hc k hlt
      have H : Hid (bits .or .u32 (tgv 256 f k) (f k * 2 ^ (8 * k) % 4294967296) = tgv 256 f (k + 1)) := or_step8 f k (by omega) hb x0 x1
      clear hc
      go_wp2
      go_round
      case rel => exact ⟨k + 1, by omega, by go_num, by rw [H.out]⟩
      case measure => simp [intOf]; omega
    · clear hc
      go_wp2
      go_ret
      exact ⟨ret_int (by rw [show len = k by omega]), rfl⟩

theorem rdb_four (W : World) (T : TypeId) (f : Nat → Int) (hf : ∀ i, i < 4 → 0 ≤ f i ∧ f i ≤ 255) : RdB (W.alloc (.cells #[.int .u8 (f 0), .int .u8 (f 1), .int .u8 (f 2), .int .u8 (f 3)] T)) (some ⟨W.heap.size, 0, none⟩) 4 f := by
  refine ⟨by unfold maxLen; omega, .inr ⟨_, _, rfl, fun i hi => ⟨?_, hf i hi⟩⟩⟩
  rw [Nat.zero_add, World.cell?_alloc_new]
  have : i = 0 ∨ i = 1 ∨ i = 2 ∨ i = 3 := by omega
  rcases this with rfl | rfl | rfl | rfl <;> rfl
theorem rdb_four_drew (W : World) (T : TypeId) (f : Nat → Int) (hf : ∀ i, i < 4 → 0 ≤ f i ∧ f i ≤ 255) : RdB (W.alloc (.cells #[.int .u8 (f 0), .int .u8 (f 1), .int .u8 (f 2), .int .u8 (f 3)] T)).drew (some ⟨W.heap.size, 0, none⟩) 4 f := rdb_four W T f hf
def wordAt (f : Nat → Int) (at_ : Int) : Int := tgv 256 (fun i => f (at_.toNat + i)) 4
def gotW (len : Nat) (f : Nat → Int) (at_ : Int) : Int := if fits len at_ then wordAt f at_ else 0
theorem ret2b {a a' : Int} {b b' : Bool} (h : a = a') (g : b = b') : Ending.returned (.tuple #[.int .u32 a, .bool b]) = .returned (.tuple #[.int .u32 a', .bool b']) := by rw [h, g]
set_option maxHeartbeats 1000000 in
theorem get_any (a : Option Addr) (len cap : Nat) (f : Nat → Int) (at_ : Int) (w : World) (hr : RdB w a len f) :
    Calls Tryz.prog 80 #[.slice a len cap, .int .i64 at_] w fun e w' => e = .returned (.tuple #[.int .u32 (gotW len f at_), .bool (fits len at_)]) ∧ Below w.heap.size w w' := by
  have hm := hr.1
  by_cases hf : fits len at_ = true
  · have hf' := hf
    simp only [fits, decide_eq_true_eq] at hf'
    obtain ⟨p, rfl⟩ := Int.eq_ofNat_of_zero_le hf'.1
    rcases hr.2 with h0 | ⟨b, off, rfl, hc⟩
    · omega
    · have l0 := hc p (by omega)
      have l1 := hc (p + 1) (by omega)
      have l2 := hc (p + 2) (by omega)
      have l3 := hc (p + 3) (by omega)
      rw [show off + (p + 2) = off + ((p : Int) + 2).toNat by omega] at l2
      rw [show off + (p + 3) = off + ((p : Int) + 3).toNat by omega] at l3
      have H : Hid (gotW len f p = wordAt f p) := if_pos hf
      have hb4 : ∀ i, i < 4 → 0 ≤ f (p + i) ∧ f (p + i) ≤ 255 := fun i hi => (hc (p + i) (by omega)).2
      have hlt : p + 3 < len := by omega
      unfold maxLen at hm
      rw [H.out]
      clear hc hr
      have k0 : (0 : Int) ≤ (p : Int) := by omega
      have k1 : (p : Int) < (len : Int) := by omega
      have k2 : (0 : Int) ≤ (p : Int) + 1 := by omega
      have k3 : (p : Int) + 1 < (len : Int) := by omega
      have k4 : (0 : Int) ≤ (p : Int) + 2 := by omega
      have k5 : (p : Int) + 2 < (len : Int) := by omega
      have k6 : (0 : Int) ≤ (p : Int) + 3 := by omega
      have k7 : (p : Int) + 3 < (len : Int) := by omega
      have e1 : IntKind.i64.wrap ((p : Int) + 1) = p + 1 := by rw [IntWalk.i64_left, IntWalk.wrap64_in]; omega
      have e2 : IntKind.i64.wrap ((p : Int) + 2) = p + 2 := by rw [IntWalk.i64_left, IntWalk.wrap64_in]; omega
      have e3 : IntKind.i64.wrap ((p : Int) + 3) = p + 3 := by rw [IntWalk.i64_left, IntWalk.wrap64_in]; omega
      go_enter Tryz.func80, Tryz.ntmps80
      go_wp2_with (go_at_call 79; refine (holdsWord_any _ _ _ _ _ (by unfold maxLen; omega)).mono ?_; rw [hf]; rintro e w' ⟨rfl, rfl⟩)
      go_region_held3 (fun w' => w'.cell? ⟨b, off + p, none⟩ = some (.int .u8 (f p)) ∧ w'.cell? ⟨b, off + (p + 1), none⟩ = some (.int .u8 (f (p + 1))) ∧ w'.cell? ⟨b, off + ((p : Int) + 2).toNat, none⟩ = some (.int .u8 (f (p + 2))) ∧ w'.cell? ⟨b, off + ((p : Int) + 3).toNat, none⟩ = some (.int .u8 (f (p + 3)))) (go_keep) (first | (go_at_call 95; refine (together8_any _ _ _ (fun i => f (p + i)) _ (rdb_four_drew _ _ (fun i => f (p + i)) hb4) (by omega)).mono ?_; rintro e w1 ⟨rfl, rfl⟩))
      all_goals go_wp2
      all_goals go_ret2
      all_goals exact ⟨ret2b rfl hf.symm, ((Below.refl _ _).alloc (Nat.le_refl _) _).drew⟩
  · have hf0 : fits len at_ = false := by simpa using hf
    have H : Hid (gotW len f at_ = 0) := if_neg hf
    rw [H.out]
    clear hr
    go_enter Tryz.func80, Tryz.ntmps80
    go_wp2_with (go_at_call 79; refine (holdsWord_any _ _ _ _ _ hm).mono ?_; rw [hf0]; rintro e w' ⟨rfl, rfl⟩)
    go_ret2
    exact ⟨ret2b rfl hf0.symm, Below.refl _ _⟩

def byteOf (v : Int) (k : Nat) : Int := v / 2 ^ (8 * k) % 256
theorem byteOf_bd (v : Int) (k : Nat) : 0 ≤ byteOf v k ∧ byteOf v k ≤ 255 := by unfold byteOf; omega
/-- What lies in a row behind the first k of a word's bytes were laid at its place p. -/
def partL (L : Nat → Int) (p : Nat) (v : Int) (k i : Nat) : Int := if p ≤ i ∧ i < p + k then byteOf v (i - p) else L i
/-- What lies in a row behind Put. -/
def putL (len : Nat) (L : Nat → Int) (at_ v : Int) (i : Nat) : Int := if fits len at_ then partL L at_.toNat v 4 i else L i
theorem part_next (L : Nat → Int) (p : Nat) (v : Int) (k : Nat) : upd (partL L p v k) (p + k) (byteOf v k) = partL L p v (k + 1) := by
  funext i
  by_cases e : i = p + k
  · subst e; rw [upd_at, partL, if_pos (by omega), show p + k - p = k by omega]
  · rw [upd_ne _ _ e]
    unfold partL
    by_cases c : p ≤ i ∧ i < p + k
    · rw [if_pos c, if_pos (by omega)]
    · rw [if_neg c, if_neg (by omega)]
theorem Tou.set {M : Nat → Prop} {a w : World} (h : Tou M a w) (p : Addr) (hp : M p.block) (v : Value) : Tou M a (w.setCell p v) :=
  ⟨h.os, h.tape, h.output, by simpa using h.size, fun k hk hm => (Below.heap_setCell w p v k (fun e => hm (by rw [e]; exact hp))).trans (h.block k hk hm)⟩
theorem put_any (g n cap : Nat) (L : Nat → Int) (at_ v : Int) (w : World) (hn : n ≤ maxLen) (h : BRow w g n L) :
    Calls Tryz.prog 64 #[.slice (some ⟨g, 0, none⟩) n cap, .int .i64 at_, .int .u32 v] w fun e w' => e = .returned (.bool (fits n at_)) ∧ BRow w' g n (putL n L at_ v) ∧ Tou (fun x => x = g) w w' ∧ w'.heap.size = w.heap.size := by
  by_cases hf : fits n at_ = true
  · have hf' := hf
    simp only [fits, decide_eq_true_eq] at hf'
    obtain ⟨p, rfl⟩ := Int.eq_ofNat_of_zero_le hf'.1
    have HF : Hid (fits n (p : Int) = true) := hf
    have HS : Hid (BRow w g n (partL L p v 0)) := h.ext fun i _ => by rw [partL, if_neg (by omega)]
    clear h
    unfold maxLen at hn
    go_enter Tryz.func64, Tryz.ntmps64
    go_wp2_with (go_at_call 79; refine (holdsWord_any _ _ _ _ _ (by unfold maxLen; omega)).mono ?_; rw [hf]; rintro e w' ⟨rfl, rfl⟩)
    go_loopw [12] (fun i wr => ∃ k : Nat, k ≤ 4 ∧ i = .int .i64 k ∧ BRow wr g n (partL L p v k) ∧ Tou (fun x => x = g) w' wr ∧ wr.heap.size = w'.heap.size) (fun i _ => 4 - (intOf i).toNat)
    case atStart => exact ⟨0, by omega, rfl, HS.out, Tou.refl _ _, rfl⟩
    case round =>
      obtain ⟨k, hk, rfl, hr, ht, hz⟩ := hrel
      have HT : Hid _ := ht
      have HZ : Hid (wr.heap.size = w'.heap.size) := hz
      clear HS hf ht hz
      by_cases hlt : k < 4
      · obtain ⟨c1, c2⟩ := hr.at (k := p + k) (by omega)
        have HN := hr.set (k := p + k) (by omega) (byteOf v k)
        rw [part_next] at HN
        have HN : Hid _ := HN
        clear hr
        go_wp2
        go_roundw
        case rel => exact ⟨k + 1, by omega, by go_num, HN.out, HT.out.set ⟨g, p + k, none⟩ rfl _, by simpa using HZ.out⟩
        case measure => simp [intOf]; omega
      · obtain rfl : k = 4 := by omega
        go_wp2
        go_ret
        exact ⟨ret_bool HF.out.symm, hr.ext fun i hi => by rw [putL, if_pos HF.out, Int.toNat_natCast], HT.out, HZ.out⟩
  · have hf0 : fits n at_ = false := by simpa using hf
    go_enter Tryz.func64, Tryz.ntmps64
    go_wp2_with (go_at_call 79; refine (holdsWord_any _ _ _ _ _ hn).mono ?_; rw [hf0]; rintro e w' ⟨rfl, rfl⟩)
    go_ret
    exact ⟨ret_bool hf0.symm, h.ext fun i hi => by rw [putL, if_neg hf], Tou.refl _ _, rfl⟩
end Go.Proofs.YtmjflbleobmjdaaGreatDoor
