/-
  The walk of the law on memory.
-/
import Derived.Test.YteegkhnikcioiaaGreatDoorMBMeth
namespace Go.Proofs.YteegkhnikcioiaaGreatDoor
open Go.ChangeShapes Go.WideShapes Go.ChangeAt Go.RowKit
attribute [local go_sem ↓] loadSec_seal storeSec_seal eqlSec_seal zeroSec
attribute [local go_sem] loadSec_run storeSec_run rowAt_at rowAt_old rowAt_drew rowAt_drewN roomSec_new roomAt_old roomAt_drew roomAt_drewN putSec_new putRow_past rowSec_put size_put putRow_drew putRow_drewN alloc_drewN setCell_drewN sec_size

set_option linter.unusedVariables false

theorem step_sw (L : Lg) (a v : Int) (h : isW a = true) : L.step 3 a v = ((0, 0), { L with M := pokeM L.M a v }) := by
  have e : L.store a v = (0, { L with M := pokeM L.M a v }) := if_pos h
  unfold Lg.step; rw [if_neg (by decide), if_neg (by decide), if_neg (by decide), if_pos rfl, e]
theorem step_lw (L : Lg) (a v : Int) (h : isW a = true) : L.step 1 a v = ((wordAt L.M a, 0), L) := by
  have e : L.load a = ((wordAt L.M a, 0), L) := if_pos h
  unfold Lg.step; rw [if_neg (by decide), if_pos rfl, e]
theorem step_sb (L : Lg) (a v : Int) (h : a < 1048576) : L.step 4 a v = ((0, 0), { L with M := upd L.M a.toNat (v % 256) }) := by
  have e : L.stb a v = (0, { L with M := upd L.M a.toNat (v % 256) }) := if_pos h
  unfold Lg.step; rw [if_neg (by decide), if_neg (by decide), if_neg (by decide), if_neg (by decide), if_pos rfl, e]
theorem step_lb (L : Lg) (a v : Int) (h : a < 1048576) : L.step 2 a v = ((L.M a.toNat, 0), L) := by
  have e : L.ldb a = (L.M a.toNat, 0) := if_pos h
  unfold Lg.step; rw [if_neg (by decide), if_neg (by decide), if_pos rfl, e]
/-- A word's four bytes stand there. -/
def Four (M : Nat → Int) (A : Int) (v : Int) : Prop := ∀ j, j < 4 → M (A.toNat + j) = byteOf v j
theorem word_back (v : Int) (v0 : 0 ≤ v) (v1 : v ≤ 4294967295) : tgv 256 (fun j => byteOf v j) 4 = v := by
  simp only [tgv, byteOf]; omega
theorem tgv_ext {f g : Nat → Int} : ∀ k, (∀ j, j < k → f j = g j) → tgv 256 f k = tgv 256 g k
  | 0, _ => rfl
  | k + 1, h => by rw [tgv, tgv, tgv_ext k (fun j hj => h j (by omega)), h k (by omega)]
theorem Four.word {M : Nat → Int} {A v : Int} (h : Four M A v) (v0 : 0 ≤ v) (v1 : v ≤ 4294967295) : wordAt M A = v := by
  unfold wordAt
  rw [tgv_ext 4 h, word_back v v0 v1]
theorem four_poke (M : Nat → Int) (A v : Int) (h : isW A = true) : Four (pokeM M A v) A v := fun j hj => by
  unfold pokeM; rw [if_pos h]
  unfold partL; rw [if_pos (by omega), show A.toNat + j - A.toNat = j by omega]
theorem Four.poke {M : Nat → Int} {A v : Int} (h : Four M A v) (A0 : 0 ≤ A) (A4 : A % 4 = 0) {x u : Int} (x0 : 0 ≤ x) (hne : ¬ x / 4 = A / 4) : Four (pokeM M x u) A v := fun j hj => by
  rw [← h j hj]
  unfold pokeM
  by_cases hw : isW x = true
  · rw [if_pos hw]
    have : x % 4 = 0 := by unfold isW at hw; simp at hw; exact hw.1
    unfold partL; rw [if_neg (by omega)]
  · rw [if_neg hw]
theorem Four.byte {M : Nat → Int} {A v : Int} (h : Four M A v) (A0 : 0 ≤ A) (A4 : A % 4 = 0) {x u : Int} (x0 : 0 ≤ x) (hne : ¬ x / 4 = A / 4) : Four (upd M x.toNat u) A v := fun j hj => by
  rw [← h j hj, upd_ne _ _ (by omega)]
theorem bits_and_255 (a : Nat) (ha : a < 4294967296) : bits .and .u32 (a : Int) 255 = ((a % 256 : Nat) : Int) := by
  have h1 : (BitVec.ofInt 32 (a : Int)).toNat = a := by
    rw [BitVec.ofInt_natCast, BitVec.toNat_ofNat]; exact Nat.mod_eq_of_lt (by omega)
  have h2 : (BitVec.ofInt 32 (255 : Int)).toNat = 255 := by decide
  show IntKind.u32.wrap ((BitVec.ofInt 32 (a : Int) &&& BitVec.ofInt 32 (255 : Int)).toNat : Int) = _
  rw [BitVec.toNat_and, h1, h2, wrap_u32, show (255 : Nat) = 2 ^ 8 - 1 from rfl, Nat.and_two_pow_sub_one_eq_mod]
  omega
theorem and_255 (x : Int) (x0 : 0 ≤ x) (x1 : x ≤ 4294967295) : bits .and .u32 x 255 = x % 256 := by
  obtain ⟨n, rfl⟩ := Int.eq_ofNat_of_zero_le x0
  rw [bits_and_255 n (by omega)]; simp
theorem byte_test (v : Int) (m : Nat) (v0 : 0 ≤ v) (v1 : v ≤ 4294967295) (p : Int) (hp : p = 2 ^ (8 * m)) (p0 : 0 < p) : (byteOf v m != bits .and .u32 (v / p) 255) = false := by
  rw [and_255 _ (Int.ediv_nonneg v0 (Int.le_of_lt p0)) (Int.le_trans (Int.ediv_le_self _ v0) v1)]
  unfold byteOf
  rw [hp]; simp
theorem none_rd (w : World) (f : Nat → Int) : RdW w none 0 f := ⟨by decide, .inl rfl⟩
theorem word_is (b : Nat) (P : Ph) (L : Lg) (a : Int) (w : World) (h : Bus w b P L) (hw : isW a = true) {r : Int} (hr : wordAt L.M a = r) (a0 : 0 ≤ a) (a1 : a ≤ 4294967295) : Calls Tryz.prog 46 #[.pointer (some ⟨b, 0, none⟩), .int .u32 a] w fun e w' => e = .returned (.tuple #[.int .u32 r, .bool true]) ∧ Below w.heap.size w w' := by
  have e := word_any b P L a w h a0 a1
  have e2 : gotV L.M a = r := (if_pos hw).trans hr
  rw [e2, hw] at e
  exact e
structure MemRel (w : World) (b : Nat) (A v : Int) (X : World) : Prop where
  ex : ∃ P L, Own w b P L X ∧ Four L.M A v
namespace busMemory
end busMemory
end Go.Proofs.YteegkhnikcioiaaGreatDoor
