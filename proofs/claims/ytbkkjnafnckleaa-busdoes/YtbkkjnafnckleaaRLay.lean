/-
  A byte is laid into the document's memory.
-/
import Derived.Test.YtbkkjnafnckleaaRPlain
namespace Go.Proofs.Ytbkkjnafnckleaa
open Go.ChangeShapes Go.WideShapes Go.ChangeAt Go.RowKit
attribute [local go_sem ↓] loadSec_seal storeSec_seal eqlSec_seal zeroSec
attribute [local go_sem] loadSec_run storeSec_run rowAt_at rowAt_old rowAt_drew rowAt_drewN roomSec_new roomAt_old roomAt_drew roomAt_drewN putSec_new putRow_past rowSec_put size_put putRow_drew putRow_drewN alloc_drewN setCell_drewN sec_size

set_option linter.unusedVariables false

theorem lay_nat (x c p : Nat) (hx : x < 2 ^ 32) (hc : c < 256) (hp : p + 8 ≤ 32) : (x &&& ((2 ^ (32 - (p + 8)) - 1) * 2 ^ (p + 8) + (2 ^ p - 1))) ||| (c * 2 ^ p) = x / 2 ^ (p + 8) * 2 ^ (p + 8) + c * 2 ^ p + x % 2 ^ p := by
  have p0 : 0 < 2 ^ p := Nat.pow_pos (by decide)
  have p8 : 0 < 2 ^ (p + 8) := Nat.pow_pos (by decide)
  have e8 : 2 ^ (p + 8) = 2 ^ p * 256 := by rw [Nat.pow_add]
  have lt8 : 2 ^ p - 1 < 2 ^ (p + 8) := by rw [e8]; omega
  have clt : c * 2 ^ p < 2 ^ (p + 8) := by rw [e8, Nat.mul_comm]; exact Nat.mul_lt_mul_of_pos_left hc p0
  have h32 : 2 ^ 32 = 2 ^ (32 - (p + 8)) * 2 ^ (p + 8) := by rw [← Nat.pow_add]; congr 1; omega
  have xhi : x / 2 ^ (p + 8) < 2 ^ (32 - (p + 8)) := by rw [Nat.div_lt_iff_lt_mul p8, ← h32]; exact hx
  generalize hm : (2 ^ (32 - (p + 8)) - 1) * 2 ^ (p + 8) + (2 ^ p - 1) = m
  have m1 : m / 2 ^ (p + 8) = 2 ^ (32 - (p + 8)) - 1 := by rw [← hm, Nat.mul_comm, Nat.mul_add_div p8, Nat.div_eq_of_lt lt8, Nat.add_zero]
  have m2 : m % 2 ^ (p + 8) = 2 ^ p - 1 := by rw [← hm, Nat.mul_comm, Nat.mul_add_mod, Nat.mod_eq_of_lt lt8]
  generalize hr : (x &&& m) ||| (c * 2 ^ p) = r
  have r1 : r / 2 ^ (p + 8) = x / 2 ^ (p + 8) := by
    rw [← hr, Nat.or_div_two_pow, Nat.and_div_two_pow, m1, Nat.and_two_pow_sub_one_eq_mod, Nat.mod_eq_of_lt xhi, Nat.div_eq_of_lt clt, Nat.or_zero]
  have r2 : r % 2 ^ (p + 8) = x % 2 ^ p + c * 2 ^ p := by
    rw [← hr, Nat.or_mod_two_pow, Nat.and_mod_two_pow, m2, Nat.and_two_pow_sub_one_eq_mod, Nat.mod_eq_of_lt clt, Nat.mod_mod_of_dvd _ ⟨256, e8⟩, Nat.or_comm, Nat.mul_comm, ← Nat.two_pow_add_eq_or_of_lt (Nat.mod_lt _ p0), Nat.mul_comm, Nat.add_comm]
  have := Nat.div_add_mod r (2 ^ (p + 8))
  rw [r1, r2, Nat.mul_comm] at this
  omega

theorem bits_and_u32_nat (a b : Nat) (ha : a < 4294967296) (hb : b < 4294967296) : bits .and .u32 (a : Int) (b : Int) = ((a &&& b : Nat) : Int) := by
  have hx : a &&& b < 2 ^ 32 := Nat.and_lt_two_pow _ (by omega)
  have h1 : (BitVec.ofInt 32 (a : Int)).toNat = a := by
    rw [BitVec.ofInt_natCast, BitVec.toNat_ofNat]; exact Nat.mod_eq_of_lt (by omega)
  have h2 : (BitVec.ofInt 32 (b : Int)).toNat = b := by
    rw [BitVec.ofInt_natCast, BitVec.toNat_ofNat]; exact Nat.mod_eq_of_lt (by omega)
  show IntKind.u32.wrap ((BitVec.ofInt 32 (a : Int) &&& BitVec.ofInt 32 (b : Int)).toNat : Int) = _
  rw [BitVec.toNat_and, h1, h2, wrap_u32]
  omega
theorem lay_int (W c : Int) (p m : Nat) (hp : p + 8 ≤ 32) (hm : m = (2 ^ (32 - (p + 8)) - 1) * 2 ^ (p + 8) + (2 ^ p - 1)) (hm1 : m < 4294967296) (W0 : 0 ≤ W) (W1 : W ≤ 4294967295) (c0 : 0 ≤ c) (c1 : c ≤ 255) (k8 k : Int) (hk8 : k8 = ((2 ^ (p + 8) : Nat) : Int)) (hk : k = ((2 ^ p : Nat) : Int)) : bits .or .u32 (bits .and .u32 W (m : Int)) (c * k) = W / k8 * k8 + c * k + W % k := by
  obtain ⟨x, rfl⟩ := Int.eq_ofNat_of_zero_le W0
  obtain ⟨d, rfl⟩ := Int.eq_ofNat_of_zero_le c0
  subst hk8 hk
  have hd : d * 2 ^ p < 4294967296 := by
    have e : 2 ^ 32 = 2 ^ (32 - p) * 2 ^ p := by rw [← Nat.pow_add]; congr 1; omega
    have e2 : 256 ≤ 2 ^ (32 - p) := by
      have : 2 ^ 8 ≤ 2 ^ (32 - p) := Nat.pow_le_pow_right (by decide) (by omega)
      exact this
    have e3 : d * 2 ^ p < 2 ^ (32 - p) * 2 ^ p := Nat.mul_lt_mul_of_pos_right (by omega) (Nat.pow_pos (by decide))
    have e4 : (2 : Nat) ^ 32 = 4294967296 := by decide
    omega
  have hand : x &&& m < 4294967296 := Nat.lt_of_le_of_lt Nat.and_le_right hm1
  have e5 : ((d : Nat) : Int) * ((2 ^ p : Nat) : Int) = ((d * 2 ^ p : Nat) : Int) := by simp
  rw [bits_and_u32_nat x m (by omega) hm1, e5, bits_or_u32_nat _ _ hand hd, hm, lay_nat x d p (by omega) (by omega) hp]
  simp only [Int.natCast_add, Int.natCast_mul, Int.natCast_ediv, Int.natCast_emod]
/-- The word that a byte was laid into. -/
theorem wd_upd {M : Nat → Int} {q j : Nat} (hj : j < 4) (c : Int) (i : Nat) : wd (upd M (4 * q + j) c) i = if i = q then (if j = 0 then c else M (4 * q)) + (if j = 1 then c else M (4 * q + 1)) * 256 + (if j = 2 then c else M (4 * q + 2)) * 65536 + (if j = 3 then c else M (4 * q + 3)) * 16777216 else wd M i := by
  by_cases hi : i = q
  · subst hi
    rw [if_pos rfl]
    unfold wd upd
    have : j = 0 ∨ j = 1 ∨ j = 2 ∨ j = 3 := by omega
    rcases this with rfl | rfl | rfl | rfl <;> simp
  · rw [if_neg hi]
    unfold wd
    rw [upd_ne _ _ (by omega), upd_ne _ _ (by omega), upd_ne _ _ (by omega), upd_ne _ _ (by omega)]
theorem lay_end {w : World} {r : Nat} {P : RPh} {L : Lg} (h : RBus w r P L) {q j : Nat} (hq : q < 262144) (hj : j < 4) {a : Nat} (ha : a = 4 * q + j) {c v : Int} (c0 : 0 ≤ c) (c1 : c ≤ 255) (hv : v = wd (upd L.M (4 * q + j) c) q) {X : World} (hX : X = (w.setCell ⟨P.mb, q, none⟩ (.int .u32 v)).drew) : RStp w r P X P { L with M := upd L.M a c } := by
  subst hX ha hv
  have h1 : Tou (fun x => x = P.mb) w ((w.setCell ⟨P.mb, q, none⟩ (.int .u32 (wd (upd L.M (4 * q + j) c) q))).drew) := by
    have e := (Tou.refl (fun x => x = P.mb) w).set ⟨P.mb, q, none⟩ rfl (.int .u32 (wd (upd L.M (4 * q + j) c) q))
    exact ⟨e.os, e.tape, e.output, e.size, e.block⟩
  refine RStp.mem h h1 ?_ (upd_byte h.byte _ c0 c1)
  refine WRow.same (w := w.setCell ⟨P.mb, q, none⟩ (.int .u32 (wd (upd L.M (4 * q + j) c) q))) ((h.mem.set hq _).ext fun i _ => ?_) rfl
  by_cases hi : i = q
  · rw [hi, upd_at]
  · rw [upd_ne _ _ hi, wd_upd hj, if_neg hi]
theorem lay_val0 {M : Nat → Int} {q : Nat} (h : ∀ j, j < 4 → 0 ≤ M (4 * q + j) ∧ M (4 * q + j) ≤ 255) (c : Int) (c0 : 0 ≤ c) (c1 : c ≤ 255) : bits .or .u32 (bits .and .u32 (wd M q) 4294967040) c = wd (upd M (4 * q + 0) c) q := by
  have hb := wd_byte h
  have e := lay_int (wd M q) c 0 4294967040 (by decide) (by decide) (by decide) hb.2.1 hb.2.2 c0 c1 256 1 rfl rfl
  have h0 := h 0 (by omega)
  have h1 := h 1 (by omega)
  have h2 := h 2 (by omega)
  have h3 := h 3 (by omega)
  simp only [Nat.add_zero] at h0
  rw [wd_upd (by omega), if_pos rfl]
  rw [Int.mul_one] at e
  refine e.trans ?_
  simp
  unfold wd
  omega
set_option maxHeartbeats 1000000 in
theorem lay_0 (r : Nat) (P : RPh) (L : Lg) (q : Nat) (c : Int) (w : World) (h : RBus w r P L) (hq : q < 262144) (c0 : 0 ≤ c) (c1 : c ≤ 255) (a : Nat) (ha : a = 4 * q + 0) : Calls Try.prog 51 #[.pointer (some ⟨r, 0, none⟩), .int .u32 a, .int .u8 c] w fun e w' => e = .returned (.tuple #[]) ∧ RStp w r P w' P { L with M := upd L.M a c } := by
  have hb := wd_byte (M := L.M) (q := q) (fun j hj => h.byte (4 * q + j) (by omega))
  have HV : Hid _ := lay_val0 (M := L.M) (q := q) (fun j hj => h.byte (4 * q + j) (by omega)) c c0 c1
  have c2 := h.eight.c0
  obtain ⟨cw, cf⟩ := h.mem.at (k := q) (by omega)
  have e1 : (a : Int) / 4 = (q : Int) := by omega
  have e2 : (a : Int) % 4 = 0 := by omega
  have i0 : (0 : Int) ≤ (q : Int) := by omega
  have i1 : (q : Int) < 262144 := by omega
  have b0 := hb.2.1
  have b1 := hb.2.2
  have H : Hid (RBus w r P L) := h
  have HA : Hid (a = 4 * q + 0) := ha
  clear h hb ha
  go_enter Try.func51, Try.ntmps51
  go_wp2
  go_region
  all_goals
    go_end0
    exact ⟨rfl, lay_end H.out hq (show 0 < 4 by decide) HA.out c0 c1 HV.out rfl⟩
theorem lay_val1 {M : Nat → Int} {q : Nat} (h : ∀ j, j < 4 → 0 ≤ M (4 * q + j) ∧ M (4 * q + j) ≤ 255) (c : Int) (c0 : 0 ≤ c) (c1 : c ≤ 255) : bits .or .u32 (bits .and .u32 (wd M q) 4294902015) (c * 256) = wd (upd M (4 * q + 1) c) q := by
  have hb := wd_byte h
  have e := lay_int (wd M q) c 8 4294902015 (by decide) (by decide) (by decide) hb.2.1 hb.2.2 c0 c1 65536 256 rfl rfl
  have h0 := h 0 (by omega)
  have h1 := h 1 (by omega)
  have h2 := h 2 (by omega)
  have h3 := h 3 (by omega)
  simp only [Nat.add_zero] at h0
  rw [wd_upd (by omega), if_pos rfl]
  skip
  refine e.trans ?_
  simp
  unfold wd
  omega
set_option maxHeartbeats 1000000 in
theorem lay_1 (r : Nat) (P : RPh) (L : Lg) (q : Nat) (c : Int) (w : World) (h : RBus w r P L) (hq : q < 262144) (c0 : 0 ≤ c) (c1 : c ≤ 255) (a : Nat) (ha : a = 4 * q + 1) : Calls Try.prog 51 #[.pointer (some ⟨r, 0, none⟩), .int .u32 a, .int .u8 c] w fun e w' => e = .returned (.tuple #[]) ∧ RStp w r P w' P { L with M := upd L.M a c } := by
  have hb := wd_byte (M := L.M) (q := q) (fun j hj => h.byte (4 * q + j) (by omega))
  have HV : Hid _ := lay_val1 (M := L.M) (q := q) (fun j hj => h.byte (4 * q + j) (by omega)) c c0 c1
  have c2 := h.eight.c0
  obtain ⟨cw, cf⟩ := h.mem.at (k := q) (by omega)
  have e1 : (a : Int) / 4 = (q : Int) := by omega
  have e2 : (a : Int) % 4 = 1 := by omega
  have i0 : (0 : Int) ≤ (q : Int) := by omega
  have i1 : (q : Int) < 262144 := by omega
  have b0 := hb.2.1
  have b1 := hb.2.2
  have H : Hid (RBus w r P L) := h
  have HA : Hid (a = 4 * q + 1) := ha
  clear h hb ha
  go_enter Try.func51, Try.ntmps51
  go_wp2
  go_region
  all_goals
    go_end0
    exact ⟨rfl, lay_end H.out hq (show 1 < 4 by decide) HA.out c0 c1 HV.out rfl⟩
theorem lay_val2 {M : Nat → Int} {q : Nat} (h : ∀ j, j < 4 → 0 ≤ M (4 * q + j) ∧ M (4 * q + j) ≤ 255) (c : Int) (c0 : 0 ≤ c) (c1 : c ≤ 255) : bits .or .u32 (bits .and .u32 (wd M q) 4278255615) (c * 65536) = wd (upd M (4 * q + 2) c) q := by
  have hb := wd_byte h
  have e := lay_int (wd M q) c 16 4278255615 (by decide) (by decide) (by decide) hb.2.1 hb.2.2 c0 c1 16777216 65536 rfl rfl
  have h0 := h 0 (by omega)
  have h1 := h 1 (by omega)
  have h2 := h 2 (by omega)
  have h3 := h 3 (by omega)
  simp only [Nat.add_zero] at h0
  rw [wd_upd (by omega), if_pos rfl]
  skip
  refine e.trans ?_
  simp
  unfold wd
  omega
set_option maxHeartbeats 1000000 in
theorem lay_2 (r : Nat) (P : RPh) (L : Lg) (q : Nat) (c : Int) (w : World) (h : RBus w r P L) (hq : q < 262144) (c0 : 0 ≤ c) (c1 : c ≤ 255) (a : Nat) (ha : a = 4 * q + 2) : Calls Try.prog 51 #[.pointer (some ⟨r, 0, none⟩), .int .u32 a, .int .u8 c] w fun e w' => e = .returned (.tuple #[]) ∧ RStp w r P w' P { L with M := upd L.M a c } := by
  have hb := wd_byte (M := L.M) (q := q) (fun j hj => h.byte (4 * q + j) (by omega))
  have HV : Hid _ := lay_val2 (M := L.M) (q := q) (fun j hj => h.byte (4 * q + j) (by omega)) c c0 c1
  have c2 := h.eight.c0
  obtain ⟨cw, cf⟩ := h.mem.at (k := q) (by omega)
  have e1 : (a : Int) / 4 = (q : Int) := by omega
  have e2 : (a : Int) % 4 = 2 := by omega
  have i0 : (0 : Int) ≤ (q : Int) := by omega
  have i1 : (q : Int) < 262144 := by omega
  have b0 := hb.2.1
  have b1 := hb.2.2
  have H : Hid (RBus w r P L) := h
  have HA : Hid (a = 4 * q + 2) := ha
  clear h hb ha
  go_enter Try.func51, Try.ntmps51
  go_wp2
  go_region
  all_goals
    go_end0
    exact ⟨rfl, lay_end H.out hq (show 2 < 4 by decide) HA.out c0 c1 HV.out rfl⟩
theorem lay_val3 {M : Nat → Int} {q : Nat} (h : ∀ j, j < 4 → 0 ≤ M (4 * q + j) ∧ M (4 * q + j) ≤ 255) (c : Int) (c0 : 0 ≤ c) (c1 : c ≤ 255) : bits .or .u32 (bits .and .u32 (wd M q) 16777215) (c * 16777216) = wd (upd M (4 * q + 3) c) q := by
  have hb := wd_byte h
  have e := lay_int (wd M q) c 24 16777215 (by decide) (by decide) (by decide) hb.2.1 hb.2.2 c0 c1 4294967296 16777216 rfl rfl
  have h0 := h 0 (by omega)
  have h1 := h 1 (by omega)
  have h2 := h 2 (by omega)
  have h3 := h 3 (by omega)
  simp only [Nat.add_zero] at h0
  rw [wd_upd (by omega), if_pos rfl]
  skip
  refine e.trans ?_
  simp
  unfold wd
  omega
set_option maxHeartbeats 1000000 in
theorem lay_3 (r : Nat) (P : RPh) (L : Lg) (q : Nat) (c : Int) (w : World) (h : RBus w r P L) (hq : q < 262144) (c0 : 0 ≤ c) (c1 : c ≤ 255) (a : Nat) (ha : a = 4 * q + 3) : Calls Try.prog 51 #[.pointer (some ⟨r, 0, none⟩), .int .u32 a, .int .u8 c] w fun e w' => e = .returned (.tuple #[]) ∧ RStp w r P w' P { L with M := upd L.M a c } := by
  have hb := wd_byte (M := L.M) (q := q) (fun j hj => h.byte (4 * q + j) (by omega))
  have HV : Hid _ := lay_val3 (M := L.M) (q := q) (fun j hj => h.byte (4 * q + j) (by omega)) c c0 c1
  have c2 := h.eight.c0
  obtain ⟨cw, cf⟩ := h.mem.at (k := q) (by omega)
  have e1 : (a : Int) / 4 = (q : Int) := by omega
  have e2 : (a : Int) % 4 = 3 := by omega
  have i0 : (0 : Int) ≤ (q : Int) := by omega
  have i1 : (q : Int) < 262144 := by omega
  have b0 := hb.2.1
  have b1 := hb.2.2
  have H : Hid (RBus w r P L) := h
  have HA : Hid (a = 4 * q + 3) := ha
  clear h hb ha
  go_enter Try.func51, Try.ntmps51
  go_wp2
  go_region
  all_goals
    go_end0
    exact ⟨rfl, lay_end H.out hq (show 3 < 4 by decide) HA.out c0 c1 HV.out rfl⟩
theorem lay_any (r : Nat) (P : RPh) (L : Lg) (a : Nat) (c : Int) (w : World) (h : RBus w r P L) (ha : a < 1048576) (c0 : 0 ≤ c) (c1 : c ≤ 255) : Calls Try.prog 51 #[.pointer (some ⟨r, 0, none⟩), .int .u32 a, .int .u8 c] w fun e w' => e = .returned (.tuple #[]) ∧ RStp w r P w' P { L with M := upd L.M a c } := by
  have hj : a = 4 * (a / 4) + 0 ∨ a = 4 * (a / 4) + 1 ∨ a = 4 * (a / 4) + 2 ∨ a = 4 * (a / 4) + 3 := by omega
  rcases hj with hj | hj | hj | hj
  · exact lay_0 r P L (a / 4) c w h (by omega) c0 c1 a hj
  · exact lay_1 r P L (a / 4) c w h (by omega) c0 c1 a hj
  · exact lay_2 r P L (a / 4) c w h (by omega) c0 c1 a hj
  · exact lay_3 r P L (a / 4) c w h (by omega) c0 c1 a hj
end Go.Proofs.Ytbkkjnafnckleaa
