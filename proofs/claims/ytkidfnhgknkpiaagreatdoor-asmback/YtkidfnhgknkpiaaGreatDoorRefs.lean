/-
  Contracts of the document's functions that tell which instructions are right and lay them into words: each returns the same as the program's.
-/
import Derived.Test.YtkidfnhgknkpiaaGreatDoorCodes
import Derived.Deep.Light
namespace Go.Proofs.YtkidfnhgknkpiaaGreatDoor
open Go.ChangeShapes Go.WideShapes Go.ChangeAt Go.RowKit
attribute [local go_sem ↓] loadIn_seal storeIn_seal
attribute [local go_sem] loadIn_run storeIn_run rowAt_at rowAt_old rowAt_drew rowAt_drewN roomCpu_new roomIn_new roomAt_old roomAt_drew roomAt_drewN putCpu_new putIn_new Cp.zero_fold In.fold putRow_past rowCpu_put rowIn_put size_put putRow_drew putRow_drewN alloc_drewN setCell_drewN Cp.at16 Cp.at17 Cp.at18 Cp.at19 Cp.at20 Cp.at21 Cp.size Cp.set16 Cp.set17 Cp.set18 Cp.set19 Cp.set20 Cp.set21 In.at0 In.at1 In.at2 In.at3 In.at4 In.at5 In.at6 In.at7 In.size In.set0 In.set1 In.set2 In.set3 In.ne Cp.ne In.set4 In.set5 In.set6 In.set7

theorem rfield_any (x : Int) (at_ k : Nat) (w : World) (h0 : 0 ≤ x) (h1 : x ≤ 4294967295) (ha : at_ ≤ 31) (hk : k ≤ 24) :
    Calls Tryz.prog 53 #[.int .u32 x, .int .i64 at_, .int .i64 k] w fun e w' => e = .returned (.int .i64 (fld x at_ k)) ∧ ∃ n, w' = w.drewN n := by
  have hm := and_mask (x / 2 ^ at_) k (by omega) (shifted_bd x at_ h0 h1).1 (shifted_bd x at_ h0 h1).2
  have H : Hid (bits .and .u32 (x / 2 ^ at_) (2 ^ k - 1) = fld x at_ k) := hm
  have hp : (2 : Int) ^ k ≤ 2 ^ 24 := by
    have : (2 : Nat) ^ k ≤ 2 ^ 24 := Nat.pow_le_pow_right (by omega) hk
    exact_mod_cast this
  have hp1 : (1 : Int) ≤ 2 ^ k := Int.pow_pos (by omega)
  have hb := fld_bd x at_ k
  have H2 : Hid (((2 : Int) ^ k - 1) % 4294967296 = 2 ^ k - 1) := by show _ = _; omega
  have H3 : Hid (0 ≤ fld x at_ k ∧ fld x at_ k < 16777216) := by
    refine ⟨hb.1, ?_⟩
    have := hb.2
    omega
  clear hm hp hp1 hb
  go_enter Tryz.func53, Tryz.ntmps53
  go_wp2
  go_quiet (fail)
  go_wp2
  go_ret
  refine ⟨ret_int ?_, nq, rfl⟩
  rw [H2.out, H.out]
  have := H3.out
  try (unfold wrap64; omega)
theorem rfield_at (x a k : Int) (w : World) (h0 : 0 ≤ x) (h1 : x ≤ 4294967295) (a0 : 0 ≤ a) (ha : a ≤ 31) (k0 : 0 ≤ k) (hk : k ≤ 24) :
    Calls Tryz.prog 53 #[.int .u32 x, .int .i64 a, .int .i64 k] w fun e w' => e = .returned (.int .i64 (fldI x a k)) ∧ ∃ n, w' = w.drewN n := by
  have := rfield_any x a.toNat k.toNat w h0 h1 (by omega) (by omega)
  rw [Int.toNat_of_nonneg a0, Int.toNat_of_nonneg k0] at this
  exact this
theorem rsext20_any (n : Int) (w : World) (h0 : 0 ≤ n) (h1 : n < 1048576) : Calls Tryz.prog 54 #[.int .i64 n, .int .i64 20] w fun e w' => e = .returned (.int .i64 (sx n 20)) ∧ w' = w := by
  go_enter Tryz.func54, Tryz.ntmps54
  go_wp2
  all_goals go_ret
  all_goals exact ⟨ret_int (by simp only [sx]; simp; split <;> omega), rfl⟩
theorem rsext24_any (n : Int) (w : World) (h0 : 0 ≤ n) (h1 : n < 16777216) : Calls Tryz.prog 54 #[.int .i64 n, .int .i64 24] w fun e w' => e = .returned (.int .i64 (sx n 24)) ∧ w' = w := by
  go_enter Tryz.func54, Tryz.ntmps54
  go_wp2
  all_goals go_ret
  all_goals exact ⟨ret_int (by simp only [sx]; simp; split <;> omega), rfl⟩
theorem sx_fld20 (x : Int) : sx (fldI x 0 20) 20 = sext x 20 := by
  simp only [sext, sx, fldI]; simp
theorem sx_fld24 (x : Int) : sx (fldI x 0 24) 24 = sext x 24 := by
  simp only [sext, sx, fldI]; simp
theorem rbit_any (b : Bool) (w : World) : Calls Tryz.prog 86 #[.bool b] w fun e w' => e = .returned (.int .u32 (bit b)) ∧ w' = w := by
  cases b <;> (go_enter Tryz.func86, Tryz.ntmps86; go_wp2; go_ret; exact ⟨rfl, rfl⟩)
def mayB (i : In) : Bool := if i.O < 0 ∨ 15 < i.O ∨ (11 < i.O ∧ i.O < 15) then false else if i.O = 15 then decide (i.F = 1) && (!i.U && (!i.V && (decide (i.A = 0) && decide (i.B = 0)))) else if i.O = 0 ∧ i.F = 0 then decide (i.B = 0) && (i.U && decide (i.C = 0) || !i.U && !i.V) else if i.O = 0 then decide (i.B = 0) && !(i.U && i.V) else (decide (i.O = 8 ∨ i.O = 9 ∨ i.O = 10) || !i.U) && (decide (i.F = 1) || !i.V)
set_option maxHeartbeats 1000000 in
theorem may_any (i : In) (w : World) : Calls Tryz.prog 85 #[.agg i.cells] w fun e w' => e = .returned (.bool (mayB i)) ∧ Below w.heap.size w w' := by
  go_enter Tryz.func85, Tryz.ntmps85
  go_wp2
  all_goals go_ret
  all_goals refine ⟨ret_bool ?_, (Below.refl _ _).alloc (Nat.le_refl _) _⟩
  all_goals go_light
  all_goals (unfold mayB; rw [Bool.eq_iff_iff]; simp_all)
  all_goals (first | omega | skip)
end Go.Proofs.YtkidfnhgknkpiaaGreatDoor
