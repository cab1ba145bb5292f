/-
  Contracts of what Exec calls, for whatever instruction is right, the program's.
-/
import Derived.Test.YtkhgeldnlffgjabDoorMuls
namespace Go.Proofs.YtkhgeldnlffgjabDoor
open Go.ChangeShapes Go.WideShapes Go.ChangeAt Go.RowKit
attribute [local go_sem ↓] loadCpu_seal storeCpu_seal loadIn_seal storeIn_seal
attribute [local go_sem] loadCpu_run storeCpu_run loadIn_run storeIn_run rowAt_at rowAt_past rowAt_drew rowAt_drewN roomCpu_new roomIn_new roomAt_old roomAt_drew roomAt_drewN putCpu_new putIn_new Cp.zero_fold In.fold putRow_past rowCpu_put rowIn_put size_put putRow_drew putRow_drewN alloc_drewN setCell_drewN Cp.at16 Cp.at17 Cp.at18 Cp.at19 Cp.at20 Cp.at21 Cp.size Cp.set16 Cp.set17 Cp.set18 Cp.set19 Cp.set20 Cp.set21 In.at0 In.at1 In.at2 In.at3 In.at4 In.at5 In.at6 In.at7 In.size In.set0 In.set1 In.set2 In.set3 In.ne Cp.ne In.set4 In.set5 In.set6 In.set7
attribute [local go_sem ↓] eqlCpu_seal
set_option linter.unusedVariables false

def Cp.opnd (c : Cp) (i : In) : Int := if i.F = 0 then c.R i.C.toNat else if i.V = true then 4294901760 + i.N else i.N
def isOp (i : In) : Prop := i.F = 0 ∨ i.F = 1 ∧ 0 ≤ i.N ∧ i.N < 65536
theorem opnd_bd (c : Cp) (i : In) (hc : c.Ok) (hC : 0 ≤ i.C ∧ i.C < 16) (hF : isOp i) : 0 ≤ c.opnd i ∧ c.opnd i ≤ 4294967295 := by
  unfold Cp.opnd
  rcases hF with hF | ⟨hF, n0, n1⟩
  · rw [if_pos hF]; exact hc.R _ (by omega)
  · rw [if_neg (by omega)]; split <;> omega
theorem operand_any (c : Cp) (i : In) (w : World) (hC : 0 ≤ i.C ∧ i.C < 16) (hF : isOp i) : Calls Tryd.prog 27 #[.agg c.cells, .agg i.cells] w fun e w' => e = .returned (.int .u32 (c.opnd i)) ∧ Below w.heap.size w w' := by
  rcases hF with hF | ⟨hF, n0, n1⟩
  · have e : c.opnd i = c.R i.C.toNat := by simp [Cp.opnd, hF]
    rw [e]
    exact operand_reg c i w hF hC.1 hC.2
  · have hm : i.N % 4294967296 = i.N := by omega
    cases hV : i.V
    · have e : c.opnd i = i.N := by simp [Cp.opnd, hF, hV]
      rw [e]
      go_enter Tryd.func27, Tryd.ntmps27
      go_wp2
      go_ret
      exact ⟨by simp, by go_grown⟩
    · have e : c.opnd i = 4294901760 + i.N := by simp [Cp.opnd, hF, hV]
      rw [e]
      have HO : Hid (bits .or .u32 4294901760 i.N = 4294901760 + i.N) := or_add 4294901760 i.N 16 (by omega) (by omega) (by omega) n0 (by omega) (by omega)
      go_enter Tryd.func27, Tryd.ntmps27
      go_wp2
      go_ret
      exact ⟨ret_int HO.out, by go_grown⟩
def Cp.flagV (c : Cp) : Int := bit c.N * 2147483648 + bit c.Z * 1073741824 + bit c.C * 536870912 + bit c.V * 268435456
theorem flagV_bd (c : Cp) : 0 ≤ c.flagV ∧ c.flagV ≤ 4294967295 := by
  have h1 := bit_bd c.N
  have h2 := bit_bd c.Z
  have h3 := bit_bd c.C
  have h4 := bit_bd c.V
  unfold Cp.flagV
  omega
theorem flag_or (c : Cp) : bits .or .u32 (bits .or .u32 (bits .or .u32 (bitV c.N 31) (bitV c.Z 30)) (bitV c.C 29)) (bitV c.V 28) = c.flagV := by
  have h1 := bit_bd c.N
  have h2 := bit_bd c.Z
  have h3 := bit_bd c.C
  have h4 := bit_bd c.V
  rw [show bitV c.N 31 = bit c.N * 2147483648 by simp [bitV], show bitV c.Z 30 = bit c.Z * 1073741824 by simp [bitV], show bitV c.C 29 = bit c.C * 536870912 by simp [bitV], show bitV c.V 28 = bit c.V * 268435456 by simp [bitV],
    or_add (bit c.N * 2147483648) (bit c.Z * 1073741824) 31 (by omega) (by omega) (by omega) (by omega) (by omega) (by omega),
    or_add _ (bit c.C * 536870912) 30 (by omega) (by omega) (by omega) (by omega) (by omega) (by omega),
    or_add _ (bit c.V * 268435456) 29 (by omega) (by omega) (by omega) (by omega) (by omega) (by omega)]
  rfl
theorem flags_any (c : Cp) (w : World) : Calls Tryd.prog 37 #[.agg c.cells] w fun e w' => e = .returned (.int .u32 c.flagV) ∧ Below w.heap.size w w' := by
  have HF : Hid (_ = _) := flag_or c
  go_enter Tryd.func37, Tryd.ntmps37
  go_wp2
  go_quiet ((go_at_call 22; exact Calls.quiet_of_same (bitAt_any _ _ _ (by omega) (by omega))))
  go_wp2
  go_ret
  exact ⟨ret_int HF.out, bdrewN ((Below.refl _ _).alloc (Nat.le_refl _) _) _⟩
def Cp.movV (c : Cp) (i : In) (x : Int) : Int := if i.U = true then (if i.F = 1 then x * 65536 % 4294967296 else if i.V = true then c.flagV else c.H) else x
theorem movV_bd (c : Cp) (i : In) (x : Int) (hc : c.Ok) (x0 : 0 ≤ x) (x1 : x ≤ 4294967295) : 0 ≤ c.movV i x ∧ c.movV i x ≤ 4294967295 := by
  have h1 := flagV_bd c
  have h2 := hc.H
  unfold Cp.movV
  split
  · split
    · omega
    · split <;> omega
  · omega
set_option maxHeartbeats 1000000 in
theorem moved_any (c : Cp) (i : In) (x : Int) (w : World) (x0 : 0 ≤ x) (x1 : x ≤ 4294967295) (hF : i.F = 0 ∨ i.F = 1) : Calls Tryd.prog 28 #[.agg c.cells, .agg i.cells, .int .u32 x] w fun e w' => e = .returned (.int .u32 (c.movV i x)) ∧ Below w.heap.size w w' := by
  cases hU : i.U
  · have e : c.movV i x = x := by simp [Cp.movV, hU]
    rw [e]
    go_enter Tryd.func28, Tryd.ntmps28
    go_wp2
    go_ret
    exact ⟨rfl, by go_grown⟩
  · rcases hF with hF | hF
    · cases hV : i.V
      · have e : c.movV i x = c.H := by simp [Cp.movV, hU, hF, hV]
        rw [e]
        go_enter Tryd.func28, Tryd.ntmps28
        go_wp2
        go_ret
        exact ⟨rfl, by go_grown⟩
      · have e : c.movV i x = c.flagV := by simp [Cp.movV, hU, hF, hV]
        rw [e]
        go_enter Tryd.func28, Tryd.ntmps28
        go_wp2_with (go_at_call 37; refine (flags_any c _).mono ?_; rintro e w1 ⟨rfl, hb⟩)
        go_ret
        exact ⟨rfl, Below.trans (by go_grown) (hb.mono (by simp; omega))⟩
    · have e : c.movV i x = x * 65536 % 4294967296 := by simp [Cp.movV, hU, hF]
      rw [e]
      go_enter Tryd.func28, Tryd.ntmps28
      go_wp2
      go_ret
      exact ⟨by first | rfl | simp, by go_grown⟩
theorem bits_bd (o : BinOp) (a b : Int) : 0 ≤ bits o .u32 a b ∧ bits o .u32 a b ≤ 4294967295 := by
  unfold bits
  cases o <;> simp only [wrap_u32] <;> omega
def combV (o b x : Int) : Int := if o = 1 then lslK b (x % 32).toNat else if o = 2 then asrK b (x % 32).toNat else if o = 3 then rorK b (x % 32).toNat else if o = 4 then bits .and .u32 b x else if o = 5 then bits .andNot .u32 b x else if o = 6 then bits .or .u32 b x else bits .xor .u32 b x
theorem combV_bd (o b x : Int) (b0 : 0 ≤ b) (b1 : b ≤ 4294967295) (x0 : 0 ≤ x) (x1 : x ≤ 4294967295) : 0 ≤ combV o b x ∧ combV o b x ≤ 4294967295 := by
  unfold combV
  split
  · exact lslK_bd _ _
  · split
    · exact asrK_bd _ _
    · split
      · exact rorK_bd _ _ b0 b1 (by omega)
      · split
        · exact bits_bd _ _ _
        · split
          · exact bits_bd _ _ _
          · split <;> exact bits_bd _ _ _
set_option maxHeartbeats 1000000 in
theorem combined_any (o b x : Int) (w : World) (ho : o = 1 ∨ o = 2 ∨ o = 3 ∨ o = 4 ∨ o = 5 ∨ o = 6 ∨ o = 7) (b0 : 0 ≤ b) (b1 : b ≤ 4294967295) (x0 : 0 ≤ x) (x1 : x ≤ 4294967295) : Calls Tryd.prog 33 #[.int .i64 o, .int .u32 b, .int .u32 x] w fun e w' => e = .returned (.int .u32 (combV o b x)) ∧ Below w.heap.size w w' := by
  rcases ho with rfl | rfl | rfl | rfl | rfl | rfl | rfl
  all_goals
    go_enter Tryd.func33, Tryd.ntmps33
    go_wp2_with (first
      | (go_at_call 42; refine (lsl_any _ _ _ x0 x1).mono ?_; rintro e w' ⟨rfl, hx⟩; obtain rfl := hx.symm; clear hx)
      | (go_at_call 43; refine (asr_any _ _ _ b0 b1 x0 x1).mono ?_; rintro e w' ⟨rfl, hx⟩; obtain rfl := hx.symm; clear hx)
      | (go_at_call 44; refine (ror_any _ _ _ b0 b1 x0 x1).mono ?_; rintro e w' ⟨rfl, hx⟩; obtain rfl := hx.symm; clear hx))
    go_ret
    exact ⟨by first | rfl | simp [combV], by first | exact Below.refl _ _ | go_grown⟩
end Go.Proofs.YtkhgeldnlffgjabDoor
