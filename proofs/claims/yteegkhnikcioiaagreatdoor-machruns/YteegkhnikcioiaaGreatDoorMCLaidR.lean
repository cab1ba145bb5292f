/-
  Contracts of the document's functions that tell which instructions are right and lay them into words: each returns the same as the program's.
  The document's Right answers as the program's right, for every instruction.
  Contracts of the document's laid, Encode and Decode: each answers as the program's.
-/
import Derived.Test.YteegkhnikcioiaaGreatDoorMCCodes
import Derived.Deep.Light
namespace Go.Proofs.YteegkhnikcioiaaGreatDoor.Cpu
open Go.ChangeShapes Go.WideShapes Go.ChangeAt Go.RowKit
attribute [local go_sem ↓] loadCpu_seal storeCpu_seal loadIn_seal storeIn_seal
attribute [local go_sem] loadCpu_run storeCpu_run loadIn_run storeIn_run rowAt_at rowAt_old rowAt_drew rowAt_drewN roomCpu_new roomIn_new roomAt_old roomAt_drew roomAt_drewN putCpu_new putIn_new Cp.zero_fold In.fold putRow_past rowCpu_put rowIn_put size_put putRow_drew putRow_drewN alloc_drewN setCell_drewN Cp.at16 Cp.at17 Cp.at18 Cp.at19 Cp.at20 Cp.at21 Cp.size Cp.set16 Cp.set17 Cp.set18 Cp.set19 Cp.set20 Cp.set21 In.at0 In.at1 In.at2 In.at3 In.at4 In.at5 In.at6 In.at7 In.size In.set0 In.set1 In.set2 In.set3 In.ne Cp.ne In.set4 In.set5 In.set6 In.set7

theorem rfield_any (x : Int) (at_ k : Nat) (w : World) (h0 : 0 ≤ x) (h1 : x ≤ 4294967295) (ha : at_ ≤ 31) (hk : k ≤ 24) :
    Calls Tryz.prog 84 #[.int .u32 x, .int .i64 at_, .int .i64 k] w fun e w' => e = .returned (.int .i64 (fld x at_ k)) ∧ ∃ n, w' = w.drewN n := by
  have hm := and_mask (x / 2 ^ at_) k (by omega) (shifted_bd x at_ h0 h1).1 (shifted_bd x at_ h0 h1).2
  have H : Hid (bits .and .u32 (x / 2 ^ at_) (2 ^ k - 1) = fld x at_ k) := hm
  have hp : (2 : Int) ^ k ≤ 2 ^ 24 := by
    have : (2 : Nat) ^ k ≤ 2 ^ 24 := Nat.pow_le_pow_right (by omega) hk
    exact_mod_cast this
  have hp1 : (1 : Int) ≤ 2 ^ k := Int.pow_pos (by omega)
  have hb := fld_bd x at_ k
  have H2 : Hid (((2 : Int) ^ k - 1) % 4294967296 = 2 ^ k - 1) := by show _ = _; omega
  have H3 : Hid (0 ≤ fld x at_ k ∧ fld x at_ k < 16777216) := by
    refine ⟨hb.1, ?_⟩
    have := hb.2
    omega
  clear hm hp hp1 hb
  go_enter Tryz.func84, Tryz.ntmps84
  go_wp2
  go_quiet (fail)
  go_wp2
  go_ret
  refine ⟨ret_int ?_, nq, rfl⟩
  rw [H2.out, H.out]
  have := H3.out
  try (unfold wrap64; omega)
theorem rfield_at (x a k : Int) (w : World) (h0 : 0 ≤ x) (h1 : x ≤ 4294967295) (a0 : 0 ≤ a) (ha : a ≤ 31) (k0 : 0 ≤ k) (hk : k ≤ 24) :
    Calls Tryz.prog 84 #[.int .u32 x, .int .i64 a, .int .i64 k] w fun e w' => e = .returned (.int .i64 (fldI x a k)) ∧ ∃ n, w' = w.drewN n := by
  have := rfield_any x a.toNat k.toNat w h0 h1 (by omega) (by omega)
  rw [Int.toNat_of_nonneg a0, Int.toNat_of_nonneg k0] at this
  exact this
theorem rsext20_any (n : Int) (w : World) (h0 : 0 ≤ n) (h1 : n < 1048576) : Calls Tryz.prog 85 #[.int .i64 n, .int .i64 20] w fun e w' => e = .returned (.int .i64 (sx n 20)) ∧ w' = w := by
  go_enter Tryz.func85, Tryz.ntmps85
  go_wp2
  all_goals go_ret
  all_goals exact ⟨ret_int (by simp only [sx]; simp; split <;> omega), rfl⟩
theorem rsext24_any (n : Int) (w : World) (h0 : 0 ≤ n) (h1 : n < 16777216) : Calls Tryz.prog 85 #[.int .i64 n, .int .i64 24] w fun e w' => e = .returned (.int .i64 (sx n 24)) ∧ w' = w := by
  go_enter Tryz.func85, Tryz.ntmps85
  go_wp2
  all_goals go_ret
  all_goals exact ⟨ret_int (by simp only [sx]; simp; split <;> omega), rfl⟩
theorem sx_fld20 (x : Int) : sx (fldI x 0 20) 20 = sext x 20 := by
  simp only [sext, sx, fldI]; simp
theorem sx_fld24 (x : Int) : sx (fldI x 0 24) 24 = sext x 24 := by
  simp only [sext, sx, fldI]; simp
theorem rbit_any (b : Bool) (w : World) : Calls Tryz.prog 112 #[.bool b] w fun e w' => e = .returned (.int .u32 (bit b)) ∧ w' = w := by
  cases b <;> (go_enter Tryz.func112, Tryz.ntmps112; go_wp2; go_ret; exact ⟨rfl, rfl⟩)
def mayB (i : In) : Bool := if i.O < 0 ∨ 15 < i.O ∨ (11 < i.O ∧ i.O < 15) then false else if i.O = 15 then decide (i.F = 1) && (!i.U && (!i.V && (decide (i.A = 0) && decide (i.B = 0)))) else if i.O = 0 ∧ i.F = 0 then decide (i.B = 0) && (i.U && decide (i.C = 0) || !i.U && !i.V) else if i.O = 0 then decide (i.B = 0) && !(i.U && i.V) else (decide (i.O = 8 ∨ i.O = 9 ∨ i.O = 10) || !i.U) && (decide (i.F = 1) || !i.V)
set_option maxHeartbeats 1000000 in
theorem may_any (i : In) (w : World) : Calls Tryz.prog 111 #[.agg i.cells] w fun e w' => e = .returned (.bool (mayB i)) ∧ Below w.heap.size w w' := by
  go_enter Tryz.func111, Tryz.ntmps111
  go_wp2
  all_goals go_ret
  all_goals refine ⟨ret_bool ?_, (Below.refl _ _).alloc (Nat.le_refl _) _⟩
  all_goals go_light
  all_goals (unfold mayB; rw [Bool.eq_iff_iff]; simp_all)
  all_goals (first | omega | skip)
end Go.Proofs.YteegkhnikcioiaaGreatDoor.Cpu

namespace Go.Proofs.YteegkhnikcioiaaGreatDoor.Cpu
set_option linter.unusedSimpArgs false
open Go.ChangeShapes Go.WideShapes Go.ChangeAt Go.RowKit
attribute [local go_sem ↓] loadCpu_seal storeCpu_seal loadIn_seal storeIn_seal
attribute [local go_sem] loadCpu_run storeCpu_run loadIn_run storeIn_run rowAt_at rowAt_old rowAt_drew rowAt_drewN roomCpu_new roomIn_new roomAt_old roomAt_drew roomAt_drewN putCpu_new putIn_new Cp.zero_fold In.fold putRow_past rowCpu_put rowIn_put size_put putRow_drew putRow_drewN alloc_drewN setCell_drewN Cp.at16 Cp.at17 Cp.at18 Cp.at19 Cp.at20 Cp.at21 Cp.size Cp.set16 Cp.set17 Cp.set18 Cp.set19 Cp.set20 Cp.set21 In.at0 In.at1 In.at2 In.at3 In.at4 In.at5 In.at6 In.at7 In.size In.set0 In.set1 In.set2 In.set3 In.ne Cp.ne In.set4 In.set5 In.set6 In.set7

theorem aw_13_1 : bits .and .i64 13 1 = 1 := by decide +kernel
theorem aw_13_2 : bits .and .i64 13 2 = 0 := by decide +kernel
theorem aw_13_4 : bits .and .i64 13 4 = 4 := by decide +kernel
theorem aw_13_8 : bits .and .i64 13 8 = 8 := by decide +kernel
theorem aw_7_1 : bits .and .i64 7 1 = 1 := by decide +kernel
theorem aw_7_2 : bits .and .i64 7 2 = 2 := by decide +kernel
theorem aw_7_4 : bits .and .i64 7 4 = 4 := by decide +kernel
theorem aw_7_8 : bits .and .i64 7 8 = 0 := by decide +kernel
theorem aw_0_1 : bits .and .i64 0 1 = 0 := by decide +kernel
theorem aw_0_2 : bits .and .i64 0 2 = 0 := by decide +kernel
theorem aw_0_4 : bits .and .i64 0 4 = 0 := by decide +kernel
theorem aw_0_8 : bits .and .i64 0 8 = 0 := by decide +kernel
theorem aw_1_1 : bits .and .i64 1 1 = 1 := by decide +kernel
theorem aw_1_2 : bits .and .i64 1 2 = 0 := by decide +kernel
theorem aw_1_4 : bits .and .i64 1 4 = 0 := by decide +kernel
theorem aw_1_8 : bits .and .i64 1 8 = 0 := by decide +kernel
theorem aw_3_1 : bits .and .i64 3 1 = 1 := by decide +kernel
theorem aw_3_2 : bits .and .i64 3 2 = 2 := by decide +kernel
theorem aw_3_4 : bits .and .i64 3 4 = 0 := by decide +kernel
theorem aw_3_8 : bits .and .i64 3 8 = 0 := by decide +kernel
theorem aw_5_1 : bits .and .i64 5 1 = 1 := by decide +kernel
theorem aw_5_2 : bits .and .i64 5 2 = 0 := by decide +kernel
theorem aw_5_4 : bits .and .i64 5 4 = 4 := by decide +kernel
theorem aw_5_8 : bits .and .i64 5 8 = 0 := by decide +kernel
theorem aw_15_1 : bits .and .i64 15 1 = 1 := by decide +kernel
theorem aw_15_2 : bits .and .i64 15 2 = 2 := by decide +kernel
theorem aw_15_4 : bits .and .i64 15 4 = 4 := by decide +kernel
theorem aw_15_8 : bits .and .i64 15 8 = 8 := by decide +kernel
theorem may_rop (i : In) (hF : i.F = 0 ∨ i.F = 1 ∧ i.C = 0) : mayB i = ropB i := by
  by_cases ho : 0 ≤ i.O ∧ i.O < 16
  · obtain ⟨F, U, V, A, B, O, C, N⟩ := i
    simp only at hF ho
    have : O = 0 ∨ O = 1 ∨ O = 2 ∨ O = 3 ∨ O = 4 ∨ O = 5 ∨ O = 6 ∨ O = 7 ∨ O = 8 ∨ O = 9 ∨ O = 10 ∨ O = 11 ∨ O = 12 ∨ O = 13 ∨ O = 14 ∨ O = 15 := by omega
    clear ho
    rcases this with rfl|rfl|rfl|rfl|rfl|rfl|rfl|rfl|rfl|rfl|rfl|rfl|rfl|rfl|rfl|rfl <;> rcases hF with rfl | ⟨rfl, rfl⟩ <;> cases U <;> cases V <;> simp [mayB, ropB, waysZ, wayI, aw_13_1, aw_13_2, aw_13_4, aw_13_8, aw_7_1, aw_7_2, aw_7_4, aw_7_8, aw_0_1, aw_0_2, aw_0_4, aw_0_8, aw_1_1, aw_1_2, aw_1_4, aw_1_8, aw_3_1, aw_3_2, aw_3_4, aw_3_8, aw_5_1, aw_5_2, aw_5_4, aw_5_8, aw_15_1, aw_15_2, aw_15_4, aw_15_8]
  · unfold mayB ropB
    rw [if_pos (by omega)]
    simp [ho]
set_option maxHeartbeats 2000000 in
theorem rright_reg (i : In) (w : World) (hr : (0 ≤ i.A ∧ i.A < 16) ∧ (0 ≤ i.B ∧ i.B < 16) ∧ (0 ≤ i.C ∧ i.C < 16)) : Calls Tryz.prog 86 #[.agg i.cells] w fun e w' => e = .returned (.bool (rightB i)) ∧ Below w.heap.size w w' := by
  obtain ⟨⟨a0, a1⟩, ⟨b0, b1⟩, ⟨c0, c1⟩⟩ := hr
  have hF : i.F = 0 ∨ i.F = 1 ∨ i.F = 2 ∨ i.F = 3 ∨ (i.F < 0 ∨ 3 < i.F) := by omega
  rcases hF with hF | hF | hF | hF | hF
  · have HM : Hid (mayB i = ropB i) := may_rop i (.inl hF)
    go_enter Tryz.func86, Tryz.ntmps86
    go_wp2_with (go_at_call 111; refine (may_any i _).mono ?_; rintro e w1 ⟨rfl, hb⟩; obtain ⟨hc, hq, hm, hz⟩ := bcell hb)
    all_goals go_ret
    all_goals refine ⟨ret_bool ?_, ?_⟩
    all_goals first | exact (Below.refl _ _).alloc (Nat.le_refl _) _ | exact ((Below.refl _ _).alloc (Nat.le_refl _) _).trans (hb.mono (by simp)) | skip
    all_goals go_light
    all_goals have hm0 := HM.out.symm
    all_goals clear HM
    all_goals (rw [Bool.eq_iff_iff]; simp_all [rightB, regB, fit20, fit24, targetB])
  · have HM : Hid (i.C = 0 → mayB i = ropB i) := fun h => may_rop i (.inr ⟨hF, h⟩)
    go_enter Tryz.func86, Tryz.ntmps86
    go_wp2_with (go_at_call 111; refine (may_any i _).mono ?_; rintro e w1 ⟨rfl, hb⟩; obtain ⟨hc, hq, hm, hz⟩ := bcell hb)
    all_goals go_ret
    all_goals refine ⟨ret_bool ?_, ?_⟩
    all_goals first | exact (Below.refl _ _).alloc (Nat.le_refl _) _ | exact ((Below.refl _ _).alloc (Nat.le_refl _) _).trans (hb.mono (by simp)) | skip
    all_goals go_light
    all_goals have hm0 := HM.out
    all_goals clear HM
    all_goals by_cases hC : i.C = 0
    all_goals first | (have hm1 := (hm0 hC).symm; clear hm0) | clear hm0
    all_goals (rw [Bool.eq_iff_iff]; simp_all [rightB, regB, fit20, fit24, targetB])
    all_goals omega
  · go_enter Tryz.func86, Tryz.ntmps86
    go_wp2_with (go_at_call 111; refine (may_any i _).mono ?_; rintro e w1 ⟨rfl, hb⟩; obtain ⟨hc, hq, hm, hz⟩ := bcell hb)
    all_goals go_ret
    all_goals refine ⟨ret_bool ?_, ?_⟩
    all_goals first | exact (Below.refl _ _).alloc (Nat.le_refl _) _ | exact ((Below.refl _ _).alloc (Nat.le_refl _) _).trans (hb.mono (by simp)) | skip
    all_goals go_light
    all_goals (rw [Bool.eq_iff_iff]; simp_all [rightB, regB, fit20, fit24, targetB])
    all_goals omega
  · go_enter Tryz.func86, Tryz.ntmps86
    go_wp2_with (go_at_call 111; refine (may_any i _).mono ?_; rintro e w1 ⟨rfl, hb⟩; obtain ⟨hc, hq, hm, hz⟩ := bcell hb)
    all_goals go_ret
    all_goals refine ⟨ret_bool ?_, ?_⟩
    all_goals first | exact (Below.refl _ _).alloc (Nat.le_refl _) _ | exact ((Below.refl _ _).alloc (Nat.le_refl _) _).trans (hb.mono (by simp)) | skip
    all_goals go_light
    all_goals (rw [Bool.eq_iff_iff]; simp_all [rightB, regB, fit20, fit24, targetB])
    all_goals omega
  · go_enter Tryz.func86, Tryz.ntmps86
    go_wp2_with (go_at_call 111; refine (may_any i _).mono ?_; rintro e w1 ⟨rfl, hb⟩; obtain ⟨hc, hq, hm, hz⟩ := bcell hb)
    all_goals go_ret
    all_goals refine ⟨ret_bool ?_, ?_⟩
    all_goals first | exact (Below.refl _ _).alloc (Nat.le_refl _) _ | exact ((Below.refl _ _).alloc (Nat.le_refl _) _).trans (hb.mono (by simp)) | skip
    all_goals go_light
    all_goals (rw [Bool.eq_iff_iff]; simp_all [rightB, regB, fit20, fit24, targetB])
    all_goals omega
set_option maxHeartbeats 2000000 in
theorem rright_bad (i : In) (w : World) (hr : ¬ ((0 ≤ i.A ∧ i.A < 16) ∧ (0 ≤ i.B ∧ i.B < 16) ∧ (0 ≤ i.C ∧ i.C < 16))) : Calls Tryz.prog 86 #[.agg i.cells] w fun e w' => e = .returned (.bool (rightB i)) ∧ Below w.heap.size w w' := by
  have hf : rightB i = false := by
    rw [Bool.eq_false_iff]
    intro h
    have := right_bd h
    exact hr ⟨this.A, this.B, this.C⟩
  rw [hf]
  clear hf
  have hc : i.A < 0 ∨ 16 ≤ i.A ∨ (0 ≤ i.A ∧ i.A < 16 ∧ i.B < 0) ∨ (0 ≤ i.A ∧ i.A < 16 ∧ 16 ≤ i.B) ∨ (0 ≤ i.A ∧ i.A < 16 ∧ 0 ≤ i.B ∧ i.B < 16 ∧ i.C < 0) ∨ (0 ≤ i.A ∧ i.A < 16 ∧ 0 ≤ i.B ∧ i.B < 16 ∧ 16 ≤ i.C) := by omega
  clear hr
  rcases hc with h1 | h1 | ⟨h1, h2, h3⟩ | ⟨h1, h2, h3⟩ | ⟨h1, h2, h3, h4, h5⟩ | ⟨h1, h2, h3, h4, h5⟩
  all_goals
    go_enter Tryz.func86, Tryz.ntmps86
    go_wp2_with (go_at_call 111; refine (may_any i _).mono ?_; rintro e w1 ⟨rfl, hb⟩; obtain ⟨hc, hq, hm, hz⟩ := bcell hb)
    all_goals go_ret
    all_goals refine ⟨rfl, ?_⟩
    all_goals first | exact (Below.refl _ _).alloc (Nat.le_refl _) _ | exact ((Below.refl _ _).alloc (Nat.le_refl _) _).trans (hb.mono (by simp))
theorem rright_any (i : In) (w : World) : Calls Tryz.prog 86 #[.agg i.cells] w fun e w' => e = .returned (.bool (rightB i)) ∧ Below w.heap.size w w' := by
  by_cases hr : (0 ≤ i.A ∧ i.A < 16) ∧ (0 ≤ i.B ∧ i.B < 16) ∧ (0 ≤ i.C ∧ i.C < 16)
  · exact rright_reg i w hr
  · exact rright_bad i w hr
end Go.Proofs.YteegkhnikcioiaaGreatDoor.Cpu

namespace Go.Proofs.YteegkhnikcioiaaGreatDoor.Cpu
open Go.ChangeShapes Go.WideShapes Go.ChangeAt Go.RowKit
attribute [local go_sem ↓] loadCpu_seal storeCpu_seal loadIn_seal storeIn_seal
attribute [local go_sem] loadCpu_run storeCpu_run loadIn_run storeIn_run rowAt_at rowAt_old rowAt_drew rowAt_drewN roomCpu_new roomIn_new roomAt_old roomAt_drew roomAt_drewN putCpu_new putIn_new Cp.zero_fold In.fold putRow_past rowCpu_put rowIn_put size_put putRow_drew putRow_drewN alloc_drewN setCell_drewN Cp.at16 Cp.at17 Cp.at18 Cp.at19 Cp.at20 Cp.at21 Cp.size Cp.set16 Cp.set17 Cp.set18 Cp.set19 Cp.set20 Cp.set21 In.at0 In.at1 In.at2 In.at3 In.at4 In.at5 In.at6 In.at7 In.size In.set0 In.set1 In.set2 In.set3 In.ne Cp.ne In.set4 In.set5 In.set6 In.set7

theorem hi_or2 (K A : Int) (u v : Bool) (f0 : 0 ≤ K) (f1 : K ≤ 3221225472) (f2 : K % 1073741824 = 0) (a0 : 0 ≤ A) (a1 : A < 16) :
    bits .or .u32 (bits .or .u32 (bits .or .u32 K (bit u * 536870912)) (bit v * 268435456)) (A * 16777216) = K + bit u * 536870912 + bit v * 268435456 + A * 16777216 := by
  have := hi_or K A u v f0 f1 f2 a0 a1
  rwa [show bitV u 29 = bit u * 536870912 by simp [bitV], show bitV v 28 = bit v * 268435456 by simp [bitV]] at this
theorem and20 (N : Int) : bits .and .u32 (N % 4294967296) 1048575 = N % 1048576 := by
  have := and_mask (N % 4294967296) 20 (by omega) (by omega) (by omega)
  have e : (2 : Int) ^ 20 = 1048576 := by decide
  rw [e] at this
  rw [show (1048575 : Int) = 1048576 - 1 by omega, this]; omega
theorem and24 (N : Int) : bits .and .u32 (N % 4294967296) 16777215 = N % 16777216 := by
  have := and_mask (N % 4294967296) 24 (by omega) (by omega) (by omega)
  have e : (2 : Int) ^ 24 = 16777216 := by decide
  rw [e] at this
  rw [show (16777215 : Int) = 16777216 - 1 by omega, this]; omega
theorem branch_or2 (T C x : Int) (t0 : 0 ≤ T) (t1 : T ≤ 4294967295) (t2 : T % 16777216 = 0) (c0 : 0 ≤ C) (c1 : C < 16) (x0 : 0 ≤ x) (x1 : x < 16777216) (h : C = 0 ∨ x = 0) :
    bits .or .u32 (bits .or .u32 T x) C = T + (C + x) := by
  rcases h with rfl | rfl
  · rw [or_add T x 24 t0 t1 (by omega) x0 (by omega) (by omega), or_zero _ (by omega) (by omega)]; omega
  · rw [or_zero T t0 t1, or_add T C 24 t0 t1 (by omega) c0 (by omega) (by omega)]; omega
set_option maxHeartbeats 1000000 in
theorem laid_any (i : In) (w : World) (h : Rt i) : Calls Tryz.prog 87 #[.agg i.cells] w fun e w' => e = .returned (.int .u32 (packV i)) ∧ Below w.heap.size w w' := by
  obtain ⟨⟨a0, a1⟩, ⟨b0, b1⟩, ⟨c0, c1⟩, hF⟩ := h
  have hu := bit_bd i.U
  have hv := bit_bd i.V
  rcases hF with ⟨hF, hN, o0, o1⟩ | ⟨hF, hC, n0, n1, o0, o1⟩ | ⟨hF, hC, hO, n0, n1⟩ | ⟨hF, hB, hO, hn⟩
  · have hi := hi_or2 0 i.A i.U i.V (by omega) (by omega) (by omega) a0 a1
    have lo := low_or (0 + bit i.U * 536870912 + bit i.V * 268435456 + i.A * 16777216) i.B i.O 0 (by omega) (by omega) (by omega) b0 b1 o0 o1 (by omega) (by omega)
    have hp : packV i = 0 + bit i.U * 536870912 + bit i.V * 268435456 + i.A * 16777216 + (i.B * 1048576 + i.O * 65536 + i.C) := by simp [packV, hiV, hF]
    have la := or_add (0 + bit i.U * 536870912 + bit i.V * 268435456 + i.A * 16777216 + (i.B * 1048576 + i.O * 65536 + 0)) i.C 16 (by omega) (by omega) (by omega) (by omega) (by omega) (by omega)
    have HE : Hid (bits .or .u32 (bits .or .u32 (bits .or .u32 (bits .or .u32 (bits .or .u32 (bits .or .u32 (bits .or .u32 0 (bit i.U * 536870912)) (bit i.V * 268435456)) (i.A * 16777216)) (i.B * 1048576)) (i.O * 65536)) 0) i.C = packV i) := by
      show _ = _
      rw [hi, lo, la, hp]; omega
    clear hi lo hp la
    go_enter Tryz.func87, Tryz.ntmps87
    go_wp2
    go_quiet ((go_at_call 112; exact Calls.quiet_of_same (rbit_any _ _)))
    go_wp2
    go_ret
    exact ⟨ret_int HE.out, bdrewN ((Below.refl _ _).alloc (Nat.le_refl _) _) _⟩
  · have hi := hi_or2 1073741824 i.A i.U i.V (by omega) (by omega) (by omega) a0 a1
    have lo := low_or (1073741824 + bit i.U * 536870912 + bit i.V * 268435456 + i.A * 16777216) i.B i.O i.N (by omega) (by omega) (by omega) b0 b1 o0 o1 n0 (by omega)
    have hp : packV i = 1073741824 + bit i.U * 536870912 + bit i.V * 268435456 + i.A * 16777216 + (i.B * 1048576 + i.O * 65536 + i.N) := by simp [packV, hiV, hF]
    have la := or_zero (1073741824 + bit i.U * 536870912 + bit i.V * 268435456 + i.A * 16777216 + (i.B * 1048576 + i.O * 65536 + i.N)) (by omega) (by omega)
    have HE : Hid (bits .or .u32 (bits .or .u32 (bits .or .u32 (bits .or .u32 (bits .or .u32 (bits .or .u32 (bits .or .u32 1073741824 (bit i.U * 536870912)) (bit i.V * 268435456)) (i.A * 16777216)) (i.B * 1048576)) (i.O * 65536)) i.N) 0 = packV i) := by
      show _ = _
      rw [hi, lo, la, hp]
    clear hi lo hp la
    go_enter Tryz.func87, Tryz.ntmps87
    go_wp2
    go_quiet ((go_at_call 112; exact Calls.quiet_of_same (rbit_any _ _)))
    go_wp2
    go_ret
    exact ⟨ret_int HE.out, bdrewN ((Below.refl _ _).alloc (Nat.le_refl _) _) _⟩
  · have hi := hi_or2 2147483648 i.A i.U i.V (by omega) (by omega) (by omega) a0 a1
    have lo := mem_or (2147483648 + bit i.U * 536870912 + bit i.V * 268435456 + i.A * 16777216) i.B (i.N % 1048576) (by omega) (by omega) (by omega) b0 b1 (by omega) (by omega)
    have hp : packV i = 2147483648 + bit i.U * 536870912 + bit i.V * 268435456 + i.A * 16777216 + (i.B * 1048576 + i.N % 1048576) := by simp [packV, hiV, hF]
    have HE : Hid (bits .or .u32 (bits .or .u32 (bits .or .u32 (bits .or .u32 (bits .or .u32 2147483648 (bit i.U * 536870912)) (bit i.V * 268435456)) (i.A * 16777216)) (i.B * 1048576)) (bits .and .u32 (i.N % 4294967296) 1048575) = packV i) := by
      show _ = _
      rw [hi, and20, lo, hp]
    clear hi lo hp
    go_enter Tryz.func87, Tryz.ntmps87
    go_wp2
    go_quiet ((go_at_call 112; exact Calls.quiet_of_same (rbit_any _ _)))
    go_wp2
    go_ret
    exact ⟨ret_int HE.out, bdrewN ((Below.refl _ _).alloc (Nat.le_refl _) _) _⟩
  · have hi := hi_or2 3221225472 i.A i.U i.V (by omega) (by omega) (by omega) a0 a1
    have lo := branch_or2 (3221225472 + bit i.U * 536870912 + bit i.V * 268435456 + i.A * 16777216) i.C (i.N % 16777216) (by omega) (by omega) (by omega) c0 c1 (by omega) (by omega) (by rcases hn with ⟨_, h, _⟩ | ⟨_, h⟩ <;> omega)
    have hp : packV i = 3221225472 + bit i.U * 536870912 + bit i.V * 268435456 + i.A * 16777216 + (i.C + i.N % 16777216) := by simp [packV, hiV, hF]
    have HE : Hid (bits .or .u32 (bits .or .u32 (bits .or .u32 (bits .or .u32 (bits .or .u32 3221225472 (bit i.U * 536870912)) (bit i.V * 268435456)) (i.A * 16777216)) (bits .and .u32 (i.N % 4294967296) 16777215)) i.C = packV i) := by
      show _ = _
      rw [hi, and24, lo, hp]
    clear hi lo hp hn
    go_enter Tryz.func87, Tryz.ntmps87
    go_wp2
    go_quiet ((go_at_call 112; exact Calls.quiet_of_same (rbit_any _ _)))
    go_wp2
    go_ret
    exact ⟨ret_int HE.out, bdrewN ((Below.refl _ _).alloc (Nat.le_refl _) _) _⟩
end Go.Proofs.YteegkhnikcioiaaGreatDoor.Cpu
