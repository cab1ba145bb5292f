/-
  What the document's Exec calls: the same plain answers as the program's.
-/
import Derived.Test.YtkhgeldnlffgjaaDoorExa
import Derived.Test.YtkhgeldnlffgjaaDoorRightR
import Derived.Laws.Bits64b
import Derived.Laws.BitsAllLaws
namespace Go.Proofs.YtkhgeldnlffgjaaDoor
open Go.ChangeShapes Go.WideShapes Go.ChangeAt Go.RowKit
attribute [local go_sem ↓] loadCpu_seal storeCpu_seal loadIn_seal storeIn_seal
attribute [local go_sem] loadCpu_run storeCpu_run loadIn_run storeIn_run rowAt_at rowAt_past rowAt_drew rowAt_drewN roomCpu_new roomIn_new roomAt_old roomAt_drew roomAt_drewN putCpu_new putIn_new Cp.zero_fold In.fold putRow_past rowCpu_put rowIn_put size_put putRow_drew putRow_drewN alloc_drewN setCell_drewN Cp.at16 Cp.at17 Cp.at18 Cp.at19 Cp.at20 Cp.at21 Cp.size Cp.set16 Cp.set17 Cp.set18 Cp.set19 Cp.set20 Cp.set21 In.at0 In.at1 In.at2 In.at3 In.at4 In.at5 In.at6 In.at7 In.size In.set0 In.set1 In.set2 In.set3 In.ne Cp.ne In.set4 In.set5 In.set6 In.set7
attribute [local go_sem ↓] eqlCpu_seal
set_option linter.unusedVariables false

theorem number_any (a : Int) (w : World) (h0 : 0 ≤ a) (h1 : a ≤ 4294967295) : Calls Tryd.prog 54 #[.int .u32 a] w fun e w' => e = .returned (.int .i64 (sg a)) ∧ w' = w := by
  go_enter Tryd.func54, Tryd.ntmps54
  go_wp2
  all_goals go_ret
  all_goals exact ⟨ret_int (by unfold sg; split <;> omega), rfl⟩
theorem rflag_or (c : Cp) : bits .or .u32 (bits .or .u32 (bits .or .u32 (bit c.N * 2147483648) (bit c.Z * 1073741824)) (bit c.C * 536870912)) (bit c.V * 268435456) = c.flagV := by
  have h1 := bit_bd c.N
  have h2 := bit_bd c.Z
  have h3 := bit_bd c.C
  have h4 := bit_bd c.V
  rw [or_add (bit c.N * 2147483648) (bit c.Z * 1073741824) 31 (by omega) (by omega) (by omega) (by omega) (by omega) (by omega),
    or_add _ (bit c.C * 536870912) 30 (by omega) (by omega) (by omega) (by omega) (by omega) (by omega),
    or_add _ (bit c.V * 268435456) 29 (by omega) (by omega) (by omega) (by omega) (by omega) (by omega)]
  rfl
theorem rflags_any (c : Cp) (w : World) : Calls Tryd.prog 68 #[.agg c.cells] w fun e w' => e = .returned (.int .u32 c.flagV) ∧ Below w.heap.size w w' := by
  have HF : Hid (_ = _) := rflag_or c
  have h1 := bit_bd c.N
  have h2 := bit_bd c.Z
  have h3 := bit_bd c.C
  have h4 := bit_bd c.V
  go_enter Tryd.func68, Tryd.ntmps68
  go_wp2
  go_quiet ((go_at_call 42; exact Calls.quiet_of_same (rbit_any _ _)))
  go_wp2
  go_ret
  exact ⟨ret_int HF.out, bdrewN ((Below.refl _ _).alloc (Nat.le_refl _) _) _⟩
/-- A register gets a word, and N and Z; PC stays. -/
def Cp.got (c : Cp) (a x : Int) : Cp := { c.wrote a x with PC := c.PC }
theorem hi_bit (x : Int) (h0 : 0 ≤ x) (h1 : x ≤ 4294967295) : (fldI x 31 1 == 1) = decide (2147483648 ≤ x) := by
  have e : fldI x 31 1 = x / 2147483648 % 2 := by unfold fldI; simp
  rw [e, Bool.eq_iff_iff]
  simp
  omega
theorem got_is (c : Cp) (a x : Int) (h0 : 0 ≤ x) (h1 : x ≤ 4294967295) : c.got a x = { c.setR a.toNat x with N := decide (2147483648 ≤ x), Z := x == 0 } := by
  unfold Cp.got Cp.wrote
  rw [hi_bit x h0 h1]
  rfl
theorem gets_any (c : Cp) (a x : Int) (w : World) (h0 : 0 ≤ a) (h1 : a < 16) (h2 : 0 ≤ x) (h3 : x ≤ 4294967295) :
    Calls Tryd.prog 32 #[.agg c.cells, .int .i64 a, .int .u32 x] w fun e w' => e = .returned (.agg (c.got a x).cells) ∧ Below w.heap.size w w' := by
  rw [got_is c a x h2 h3]
  have hs := Cp.setAt c a.toNat x (by omega)
  have hr := Cp.atR c a.toNat (by omega)
  go_enter Tryd.func32, Tryd.ntmps32
  go_wp2
  refine ret_cell1 rfl rfl (loadCpu_row (c := { c.setR a.toNat x with N := decide (2147483648 ≤ x), Z := x == 0 }) ?_) rfl ⟨rfl, ?_⟩
  · simp [go_sem]
  · go_grown
set_option maxHeartbeats 1000000 in
theorem rmoved_any (c : Cp) (i : In) (x : Int) (w : World) (x0 : 0 ≤ x) (x1 : x ≤ 4294967295) (hF : i.F = 0 ∨ i.F = 1 ∧ (i.U = true → x = i.N)) : Calls Tryd.prog 53 #[.agg c.cells, .agg i.cells, .int .u32 x] w fun e w' => e = .returned (.int .u32 (c.movV i x)) ∧ Below w.heap.size w w' := by
  cases hU : i.U
  · have e : c.movV i x = x := by simp [Cp.movV, hU]
    rw [e]
    go_enter Tryd.func53, Tryd.ntmps53
    go_wp2
    go_ret
    exact ⟨rfl, by go_grown⟩
  · rcases hF with hF | ⟨hF, hx⟩
    · cases hV : i.V
      · have e : c.movV i x = c.H := by simp [Cp.movV, hU, hF, hV]
        rw [e]
        go_enter Tryd.func53, Tryd.ntmps53
        go_wp2
        go_ret
        exact ⟨rfl, by go_grown⟩
      · have e : c.movV i x = c.flagV := by simp [Cp.movV, hU, hF, hV]
        rw [e]
        go_enter Tryd.func53, Tryd.ntmps53
        go_wp2_with (go_at_call 68; refine (rflags_any c _).mono ?_; rintro e w1 ⟨rfl, hb⟩)
        go_ret
        exact ⟨rfl, Below.trans (by go_grown) (hb.mono (by simp; omega))⟩
    · have e : c.movV i x = x * 65536 % 4294967296 := by simp [Cp.movV, hU, hF]
      have hx := hx hU
      subst hx
      rw [e]
      go_enter Tryd.func53, Tryd.ntmps53
      go_wp2
      go_ret
      exact ⟨by first | rfl | (simp; done) | (refine ret_int ?_; omega), by go_grown⟩
theorem or64 (a b : Int) (a0 : 0 ≤ a) (a1 : a ≤ 4294967295) (b0 : 0 ≤ b) (b1 : b ≤ 4294967295) : bits .or .u64 (a * 4294967296) b = a * 4294967296 + b := by
  obtain ⟨m, rfl⟩ := Int.eq_ofNat_of_zero_le a0
  obtain ⟨n, rfl⟩ := Int.eq_ofNat_of_zero_le b0
  have e1 : (m : Int) * 4294967296 = ((m * 4294967296 : Nat) : Int) := by simp
  have hn : n < 2 ^ 32 := by omega
  rw [e1, bits_or_u64_nat _ _ (by omega) (by omega)]
  have := Nat.two_pow_add_eq_or_of_lt hn m
  rw [Nat.mul_comm m, show (4294967296 : Nat) = 2 ^ 32 by decide, ← this]
  simp
theorem turn_ror (a : Int) (k : Nat) (h0 : 0 ≤ a) (h1 : a ≤ 4294967295) (hk : k ≤ 31) : (a * 4294967296 + a) / 2 ^ k % 4294967296 = rorK a k := by
  have hp : (4294967296 : Int) = 2 ^ (32 - k) * 2 ^ k := by rw [← Int.pow_add, show 32 - k + k = 32 by omega]; rfl
  have k0 : (0 : Int) < 2 ^ k := Int.pow_pos (by decide)
  have j0 : (0 : Int) < 2 ^ (32 - k) := Int.pow_pos (by decide)
  have e1 : (a * 4294967296 + a) / 2 ^ k = a * 2 ^ (32 - k) + a / 2 ^ k := by
    rw [show a * 4294967296 + a = a + (a * 2 ^ (32 - k)) * 2 ^ k by rw [Int.mul_assoc, ← hp]; omega, Int.add_mul_ediv_right _ _ (by omega)]
    omega
  have e2 : a * 2 ^ (32 - k) = a / 2 ^ k * 4294967296 + a % 2 ^ k * 2 ^ (32 - k) := by
    have := Int.mul_ediv_add_emod a (2 ^ k)
    calc a * 2 ^ (32 - k) = (2 ^ k * (a / 2 ^ k) + a % 2 ^ k) * 2 ^ (32 - k) := by rw [this]
      _ = a / 2 ^ k * 4294967296 + a % 2 ^ k * 2 ^ (32 - k) := by
        rw [Int.add_mul, hp, Int.mul_comm (2 ^ k) (a / 2 ^ k), Int.mul_assoc, Int.mul_comm (2 ^ k)]
  have b := rorK_bd a k h0 h1 hk
  unfold rorK at b ⊢
  rw [e1, e2]
  generalize a % 2 ^ k * 2 ^ (32 - k) = y at *
  generalize a / 2 ^ k = z at *
  omega
theorem turned_any (a n : Int) (w : World) (h0 : 0 ≤ a) (h1 : a ≤ 4294967295) (g0 : 0 ≤ n) (g1 : n ≤ 31) : Calls Tryd.prog 55 #[.int .u32 a, .int .i64 n] w fun e w' => e = .returned (.int .u32 (rorK a n.toNat)) ∧ w' = w := by
  have H : Hid (bits .or .u64 (a * 4294967296) a / 2 ^ n.toNat % 4294967296 = rorK a n.toNat) := by
    show _ = _
    rw [or64 a a h0 h1 h0 h1]
    exact turn_ror a n.toNat h0 h1 (by omega)
  have g2 : ¬ 64 ≤ n := by omega
  go_enter Tryd.func55, Tryd.ntmps55
  go_wp2
  go_ret
  exact ⟨ret_int H.out, rfl⟩
end Go.Proofs.YtkhgeldnlffgjaaDoor
