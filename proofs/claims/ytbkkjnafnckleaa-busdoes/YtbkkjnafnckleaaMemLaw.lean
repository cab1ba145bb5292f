/-
  The walk of the law on memory.
-/
import Derived.Test.YtbkkjnafnckleaaBShown
namespace Go.Proofs.Ytbkkjnafnckleaa
open Go.ChangeShapes Go.WideShapes Go.ChangeAt Go.RowKit
attribute [local go_sem ↓] loadSec_seal storeSec_seal eqlSec_seal zeroSec
attribute [local go_sem] loadSec_run storeSec_run rowAt_at rowAt_old rowAt_drew rowAt_drewN roomSec_new roomAt_old roomAt_drew roomAt_drewN putSec_new putRow_past rowSec_put size_put putRow_drew putRow_drewN alloc_drewN setCell_drewN sec_size

set_option linter.unusedVariables false

theorem step_sw (L : Lg) (a v : Int) (h : isW a = true) : L.step 3 a v = ((0, 0), { L with M := pokeM L.M a v }) := by
  have e : L.store a v = (0, { L with M := pokeM L.M a v }) := if_pos h
  unfold Lg.step; rw [if_neg (by decide), if_neg (by decide), if_neg (by decide), if_pos rfl, e]
theorem step_lw (L : Lg) (a v : Int) (h : isW a = true) : L.step 1 a v = ((wordAt L.M a, 0), L) := by
  have e : L.load a = ((wordAt L.M a, 0), L) := if_pos h
  unfold Lg.step; rw [if_neg (by decide), if_pos rfl, e]
theorem step_sb (L : Lg) (a v : Int) (h : a < 1048576) : L.step 4 a v = ((0, 0), { L with M := upd L.M a.toNat (v % 256) }) := by
  have e : L.stb a v = (0, { L with M := upd L.M a.toNat (v % 256) }) := if_pos h
  unfold Lg.step; rw [if_neg (by decide), if_neg (by decide), if_neg (by decide), if_neg (by decide), if_pos rfl, e]
theorem step_lb (L : Lg) (a v : Int) (h : a < 1048576) : L.step 2 a v = ((L.M a.toNat, 0), L) := by
  have e : L.ldb a = (L.M a.toNat, 0) := if_pos h
  unfold Lg.step; rw [if_neg (by decide), if_neg (by decide), if_pos rfl, e]
/-- A word's four bytes stand there. -/
def Four (M : Nat → Int) (A : Int) (v : Int) : Prop := ∀ j, j < 4 → M (A.toNat + j) = byteOf v j
theorem word_back (v : Int) (v0 : 0 ≤ v) (v1 : v ≤ 4294967295) : tgv 256 (fun j => byteOf v j) 4 = v := by
  simp only [tgv, byteOf]; omega
theorem tgv_ext {f g : Nat → Int} : ∀ k, (∀ j, j < k → f j = g j) → tgv 256 f k = tgv 256 g k
  | 0, _ => rfl
  | k + 1, h => by rw [tgv, tgv, tgv_ext k (fun j hj => h j (by omega)), h k (by omega)]
theorem Four.word {M : Nat → Int} {A v : Int} (h : Four M A v) (v0 : 0 ≤ v) (v1 : v ≤ 4294967295) : wordAt M A = v := by
  unfold wordAt
  rw [tgv_ext 4 h, word_back v v0 v1]
theorem four_poke (M : Nat → Int) (A v : Int) (h : isW A = true) : Four (pokeM M A v) A v := fun j hj => by
  unfold pokeM; rw [if_pos h]
  unfold partL; rw [if_pos (by omega), show A.toNat + j - A.toNat = j by omega]
theorem Four.poke {M : Nat → Int} {A v : Int} (h : Four M A v) (A0 : 0 ≤ A) (A4 : A % 4 = 0) {x u : Int} (x0 : 0 ≤ x) (hne : ¬ x / 4 = A / 4) : Four (pokeM M x u) A v := fun j hj => by
  rw [← h j hj]
  unfold pokeM
  by_cases hw : isW x = true
  · rw [if_pos hw]
    have : x % 4 = 0 := by unfold isW at hw; simp at hw; exact hw.1
    unfold partL; rw [if_neg (by omega)]
  · rw [if_neg hw]
theorem Four.byte {M : Nat → Int} {A v : Int} (h : Four M A v) (A0 : 0 ≤ A) (A4 : A % 4 = 0) {x u : Int} (x0 : 0 ≤ x) (hne : ¬ x / 4 = A / 4) : Four (upd M x.toNat u) A v := fun j hj => by
  rw [← h j hj, upd_ne _ _ (by omega)]
theorem bits_and_255 (a : Nat) (ha : a < 4294967296) : bits .and .u32 (a : Int) 255 = ((a % 256 : Nat) : Int) := by
  have h1 : (BitVec.ofInt 32 (a : Int)).toNat = a := by
    rw [BitVec.ofInt_natCast, BitVec.toNat_ofNat]; exact Nat.mod_eq_of_lt (by omega)
  have h2 : (BitVec.ofInt 32 (255 : Int)).toNat = 255 := by decide
  show IntKind.u32.wrap ((BitVec.ofInt 32 (a : Int) &&& BitVec.ofInt 32 (255 : Int)).toNat : Int) = _
  rw [BitVec.toNat_and, h1, h2, wrap_u32, show (255 : Nat) = 2 ^ 8 - 1 from rfl, Nat.and_two_pow_sub_one_eq_mod]
  omega
theorem and_255 (x : Int) (x0 : 0 ≤ x) (x1 : x ≤ 4294967295) : bits .and .u32 x 255 = x % 256 := by
  obtain ⟨n, rfl⟩ := Int.eq_ofNat_of_zero_le x0
  rw [bits_and_255 n (by omega)]; simp
theorem byte_test (v : Int) (m : Nat) (v0 : 0 ≤ v) (v1 : v ≤ 4294967295) (p : Int) (hp : p = 2 ^ (8 * m)) (p0 : 0 < p) : (byteOf v m != bits .and .u32 (v / p) 255) = false := by
  rw [and_255 _ (Int.ediv_nonneg v0 (Int.le_of_lt p0)) (Int.le_trans (Int.ediv_le_self _ v0) v1)]
  unfold byteOf
  rw [hp]; simp
theorem none_rd (w : World) (f : Nat → Int) : RdW w none 0 f := ⟨by decide, .inl rfl⟩
theorem word_is (b : Nat) (P : Ph) (L : Lg) (a : Int) (w : World) (h : Bus w b P L) (hw : isW a = true) {r : Int} (hr : wordAt L.M a = r) (a0 : 0 ≤ a) (a1 : a ≤ 4294967295) : Calls Try.prog 18 #[.pointer (some ⟨b, 0, none⟩), .int .u32 a] w fun e w' => e = .returned (.tuple #[.int .u32 r, .bool true]) ∧ Below w.heap.size w w' := by
  have e := word_any b P L a w h a0 a1
  have e2 : gotV L.M a = r := (if_pos hw).trans hr
  rw [e2, hw] at e
  exact e
structure MemRel (w : World) (b : Nat) (A v : Int) (X : World) : Prop where
  ex : ∃ P L, Own w b P L X ∧ Four L.M A v
namespace busMemory
set_option maxHeartbeats 4000000 in
theorem walk (a v : Int) (ao : Option Addr) (len cap : Nat) (f : Nat → Int) (w : World) (hr : RdW w ao len f) (a0 : 0 ≤ a) (a1 : a ≤ 4294967295) (v0 : 0 ≤ v) (v1 : v ≤ 4294967295) : Calls Try.prog 4 #[.int .u32 a, .int .u32 v, .slice ao len cap] w fun e w' => e = .returned (.bool true) ∧ Below w.heap.size w w' := by
  have hm := hr.1
  unfold maxLen at hm
  have HR : Hid (RdW w ao len f) := hr
  have A0 : 0 ≤ a % 262144 * 4 := by omega
  have A1 : a % 262144 * 4 ≤ 1048572 := by omega
  have HW : Hid (isW (a % 262144 * 4) = true) := by show isW _ = true; unfold isW; exact decide_eq_true (by omega)
  clear hr
  go_enter Try.func4, Try.ntmps4
  go_wp2_with (first
    | (go_at_call 7; refine (shown_any _).mono ?_; rintro e w0 ⟨rfl, hs⟩; have HS : Hid (Below w.heap.size w w0) := hs; clear hs)
    | (go_at_call 15; refine (new_some 8 _ (by omega) (by omega)).mono ?_; rintro e w1 ⟨db, D, rfl, hR, hn, hm, hS, hF, hfr, hb1⟩; have HD : Hid (Rep w1 db D ∧ D.fresh db w.heap.size ∧ Below w.heap.size w w1) := ⟨hR, fun x hx => Nat.le_trans HS.out.size (hfr x hx), HS.out.trans (hb1.mono HS.out.size)⟩; clear hR hn hm hS hF hfr hb1 HS)
    | (go_at_call 16; refine (new_bus none 0 _ db (fun _ => 0) D _ HD.out.1 (by decide) (none_rd _ _)).mono ?_; rintro e w2 ⟨b, P, rfl, hB, hdb, hD, hall, hb2⟩; have HB : Hid (Own w b P (Lg.new (fun _ => 0) 0 D) w2) := Own.begin HD.out.2.1 HD.out.2.2 (Below.refl _ w1) hB hall hb2; clear hB hdb hD hall hb2 HD))
  refine (do_is b P _ _ _ _ _ HB.out.bus (step_sw _ _ _ HW.out) A0 (by omega) v0 v1).mono ?_; rintro e v3 ⟨rfl, P1, hS⟩; have HB1 : Hid (MemRel w b (a % 262144 * 4) v v3) := ⟨P1, _, HB.out.step hS, four_poke _ _ _ HW.out⟩; clear hS HB
  go_wp2_with fail
  go_loopw [14] (fun i X => ∃ k : Nat, k ≤ len ∧ i = .int .i64 k ∧ MemRel w b (a % 262144 * 4) v X) (fun i _ => len - (intOf i).toNat)
  case atStart => exact ⟨0, Nat.zero_le _, rfl, HB1.out⟩
  case round =>
    obtain ⟨k, hk, rfl, hM⟩ := hrel
    have HM : Hid (MemRel w b (a % 262144 * 4) v wr) := hM
    clear hM HB1
    by_cases hlt : k < len
    · obtain ⟨P, L, hO, h4⟩ := HM.out.ex
      obtain ⟨g, off, rfl, hc, f0, f1⟩ := HR.out.at hlt
      have hgl := World.block_lt_of_cell? _ _ hc
      simp only [] at hgl
      have hc' : wr.cell? ⟨g, off + k, none⟩ = some (.int .u32 (f k)) := (World.cell?_of_block (hO.below.block g hgl)).trans hc
      have HO : Hid (Own w b P L wr ∧ Four L.M (a % 262144 * 4) v) := ⟨hO, h4⟩
      have j0 : (0 : Int) ≤ (k : Int) := by omega
      have j1 : (k : Int) < (len : Int) := by omega
      clear hc HR hO h4 hgl
      by_cases hpar : (k : Int) % 2 = 1
      · by_cases hx : f k % 1048576 / 4 = a % 262144 * 4 / 4
        · go_wp2_with fail
          go_roundw
          case rel => exact ⟨k + 1, by omega, by go_num, HM.out⟩
          case measure => simp [intOf]; omega
        · go_wp2_with fail
          refine (do_is b P L _ _ _ _ HO.out.1.bus (step_sb _ _ _ (by omega)) (by omega) (by omega) f0 f1).mono ?_; rintro e v4 ⟨rfl, P1, hS⟩; have HM1 : Hid (MemRel w b (a % 262144 * 4) v v4) := ⟨P1, _, HO.out.1.step hS, HO.out.2.byte A0 (by omega) (by omega) hx⟩; clear hS HO HM
          go_wp2_with fail
          go_roundw
          case rel => exact ⟨k + 1, by omega, by go_num, HM1.out⟩
          case measure => simp [intOf]; omega
      · have hpar' : ((k : Int) % 2 == 1) = false := by simpa using hpar
        by_cases hx : f k % 262144 * 4 / 4 = a % 262144 * 4 / 4
        · go_wp2_with fail
          go_roundw
          case rel => exact ⟨k + 1, by omega, by go_num, HM.out⟩
          case measure => simp [intOf]; omega
        · have HX : Hid (isW (f k % 262144 * 4) = true) := by show isW _ = true; unfold isW; exact decide_eq_true (by omega)
          go_wp2_with fail
          refine (do_is b P L _ _ _ _ HO.out.1.bus (step_sw _ _ _ HX.out) (by omega) (by omega) f0 f1).mono ?_; rintro e v4 ⟨rfl, P1, hS⟩; have HM1 : Hid (MemRel w b (a % 262144 * 4) v v4) := ⟨P1, _, HO.out.1.step hS, HO.out.2.poke A0 (by omega) (by omega) hx⟩; clear hS HO HM
          go_wp2_with fail
          go_roundw
          case rel => exact ⟨k + 1, by omega, by go_num, HM1.out⟩
          case measure => simp [intOf]; omega
    · obtain ⟨P, L, hO, h4⟩ := HM.out.ex
      have HO : Hid (Own w b P L wr ∧ Four L.M (a % 262144 * 4) v) := ⟨hO, h4⟩
      have HV : Hid (wordAt L.M (a % 262144 * 4) = v) := h4.word v0 v1
      clear hO h4 HM HR
      go_wp2_with fail
      refine (word_is b P L _ _ HO.out.1.bus HW.out HV.out A0 (by omega)).mono ?_; rintro e v5 ⟨rfl, hb⟩; have HO1 : Hid (Own w b P L v5 ∧ Four L.M (a % 262144 * 4) v) := ⟨HO.out.1.next hb, HO.out.2⟩; clear hb HO
      go_wp2_with fail
      refine (do_is b P L _ _ _ _ HO1.out.1.bus ((step_lw L _ _ HW.out).trans (by rw [HV.out])) A0 (by omega) (by decide) (by decide)).mono ?_; rintro e v6 ⟨rfl, P2, hS⟩; have HO2 : Hid (∃ P, Own w b P L v6) := ⟨P2, HO1.out.1.step hS⟩; have H4 : Hid (Four L.M (a % 262144 * 4) v) := HO1.out.2; clear hS HO1
      go_wp2_with fail
      go_loopw [21] (fun i X => ∃ k : Nat, k ≤ 4 ∧ i = .int .u32 k ∧ ∃ P, Own w b P L X) (fun i _ => 4 - (intOf i).toNat)
      case atStart => exact ⟨0, by omega, rfl, HO2.out⟩
      case round =>
        obtain ⟨m, hm4, rfl, P3, hO3⟩ := hrel
        have HO3 : Hid (Own w b P3 L _) := hO3
        clear hO3 HO2
        by_cases hlt : m < 4
        · have HE : Hid (L.M (a % 262144 * 4 + (m : Int)).toNat = byteOf v m) := by
            show L.M (a % 262144 * 4 + (m : Int)).toNat = byteOf v m
            rw [show (a % 262144 * 4 + (m : Int)).toNat = (a % 262144 * 4).toNat + m by omega]
            exact H4.out m hlt
          go_wp2_with fail
          refine (do_is b P3 L _ _ _ _ HO3.out.bus ((step_lb L _ _ (by omega)).trans (by rw [HE.out])) (by omega) (by omega) (by decide) (by decide)).mono ?_; rintro e v7 ⟨rfl, P4, hS⟩; have HO4 : Hid (∃ P, Own w b P L v7) := ⟨P4, HO3.out.step hS⟩; clear hS HO3
          have t0 : (byteOf v 0 != bits .and .u32 v 255) = false := by { have := byte_test v 0 v0 v1 1 rfl (by decide); simpa using this }
          have t1 := byte_test v 1 v0 v1 256 rfl (by decide)
          have t2 := byte_test v 2 v0 v1 65536 rfl (by decide)
          have t3 := byte_test v 3 v0 v1 16777216 rfl (by decide)
          have hm' : m = 0 ∨ m = 1 ∨ m = 2 ∨ m = 3 := by omega
          rcases hm' with rfl | rfl | rfl | rfl
          · go_wp2_with fail
            go_roundw
            case rel => exact ⟨1, by omega, by go_num, HO4.out⟩
            case measure => simp [intOf]
          · go_wp2_with fail
            go_roundw
            case rel => exact ⟨2, by omega, by go_num, HO4.out⟩
            case measure => simp [intOf]
          · go_wp2_with fail
            go_roundw
            case rel => exact ⟨3, by omega, by go_num, HO4.out⟩
            case measure => simp [intOf]
          · go_wp2_with fail
            go_roundw
            case rel => exact ⟨4, by omega, by go_num, HO4.out⟩
            case measure => simp [intOf]
        · go_wp2_with fail
          go_ret
          exact ⟨rfl, HO3.out.below⟩
end busMemory
end Go.Proofs.Ytbkkjnafnckleaa
