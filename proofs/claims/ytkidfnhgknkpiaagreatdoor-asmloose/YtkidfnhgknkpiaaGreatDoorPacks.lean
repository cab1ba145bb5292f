/-
  Contracts of the functions of layer 2 that lay instructions into words and take them out, the program's: each returns the same plain word or instruction.
-/
import Derived.Test.YtkidfnhgknkpiaaGreatDoorRights
namespace Go.Proofs.YtkidfnhgknkpiaaGreatDoor
open Go.ChangeShapes Go.WideShapes Go.ChangeAt Go.RowKit
attribute [local go_sem ↓] loadIn_seal storeIn_seal
attribute [local go_sem] loadIn_run storeIn_run rowAt_at rowAt_old rowAt_drew rowAt_drewN roomCpu_new roomIn_new roomAt_old roomAt_drew roomAt_drewN putCpu_new putIn_new Cp.zero_fold In.fold putRow_past rowCpu_put rowIn_put size_put putRow_drew putRow_drewN alloc_drewN setCell_drewN Cp.at16 Cp.at17 Cp.at18 Cp.at19 Cp.at20 Cp.at21 Cp.size Cp.set16 Cp.set17 Cp.set18 Cp.set19 Cp.set20 Cp.set21 In.at0 In.at1 In.at2 In.at3 In.at4 In.at5 In.at6 In.at7 In.size In.set0 In.set1 In.set2 In.set3 In.ne Cp.ne In.set4 In.set5 In.set6 In.set7

theorem bitOf_any (b : Bool) (k : Nat) (w : World) (hk : k ≤ 31) : Calls Tryz.prog 80 #[.bool b, .int .i64 k] w fun e w' => e = .returned (.int .u32 (bit b * 2 ^ k)) ∧ w' = w := by
  have hp : (2 : Int) ^ k < 4294967296 := by
    have : (2 : Nat) ^ k ≤ 2 ^ 31 := Nat.pow_le_pow_right (by omega) hk
    have h2 : ((2 ^ k : Nat) : Int) = 2 ^ k := by simp
    rw [← h2]; omega
  have hp1 : (0 : Int) < 2 ^ k := Int.pow_pos (by omega)
  have H : Hid ((2 : Int) ^ k % 4294967296 = 2 ^ k) := Int.emod_eq_of_lt (by omega) hp
  clear hp hp1
  cases b
  · go_enter Tryz.func80, Tryz.ntmps80
    go_wp2
    go_ret
    exact ⟨ret_int (by simp [bit]), rfl⟩
  · go_enter Tryz.func80, Tryz.ntmps80
    go_wp2
    go_ret
    exact ⟨ret_int (by simp [bit, H.out]), rfl⟩
def bitV (b : Bool) (k : Int) : Int := bit b * 2 ^ k.toNat
theorem bitAt_any (b : Bool) (k : Int) (w : World) (k0 : 0 ≤ k) (hk : k ≤ 31) : Calls Tryz.prog 80 #[.bool b, .int .i64 k] w fun e w' => e = .returned (.int .u32 (bitV b k)) ∧ w' = w := by
  have := bitOf_any b k.toNat w (by omega)
  rw [Int.toNat_of_nonneg k0] at this
  exact this
theorem or_add (T x : Int) (s : Nat) (hT0 : 0 ≤ T) (hT1 : T ≤ 4294967295) (hm : T % 2 ^ s = 0) (h0 : 0 ≤ x) (h1 : x < 2 ^ s) (h2 : x ≤ 4294967295) : bits .or .u32 T x = T + x := by
  obtain ⟨t, rfl⟩ := Int.eq_ofNat_of_zero_le hT0
  obtain ⟨y, rfl⟩ := Int.eq_ofNat_of_zero_le h0
  rw [bits_or_u32_nat _ _ (by omega) (by omega)]
  have e2 : (2 : Int) ^ s = ((2 ^ s : Nat) : Int) := by simp
  rw [e2] at hm h1
  have hd : 2 ^ s ∣ t := Nat.dvd_of_mod_eq_zero (by exact_mod_cast hm)
  obtain ⟨q, rfl⟩ := hd
  rw [← Nat.two_pow_add_eq_or_of_lt (by exact_mod_cast h1)]
  simp
structure Rt (i : In) : Prop where
  A : 0 ≤ i.A ∧ i.A < 16
  B : 0 ≤ i.B ∧ i.B < 16
  C : 0 ≤ i.C ∧ i.C < 16
  F : i.F = 0 ∧ i.N = 0 ∧ 0 ≤ i.O ∧ i.O < 16 ∨ i.F = 1 ∧ i.C = 0 ∧ 0 ≤ i.N ∧ i.N < 65536 ∧ 0 ≤ i.O ∧ i.O < 16 ∨ i.F = 2 ∧ i.C = 0 ∧ i.O = 0 ∧ -524288 ≤ i.N ∧ i.N ≤ 524287 ∨ i.F = 3 ∧ i.B = 0 ∧ i.O = 0 ∧ (i.U = true ∧ i.C = 0 ∧ -8388608 ≤ i.N ∧ i.N ≤ 8388607 ∨ i.U = false ∧ i.N = 0)
theorem rop_bd {i : In} (h : ropB i = true) : 0 ≤ i.O ∧ i.O < 16 := by
  unfold ropB at h
  simp only [Bool.and_eq_true, decide_eq_true_eq] at h
  exact h.1.1
theorem right_bd {i : In} (h : rightB i = true) : Rt i := by
  unfold rightB at h
  simp only [Bool.and_eq_true, regB, decide_eq_true_eq] at h
  obtain ⟨hA, hB, hC, h⟩ := h
  refine ⟨hA, hB, hC, ?_⟩
  split at h
  · rename_i hF
    simp only [Bool.and_eq_true, decide_eq_true_eq] at h
    exact .inl ⟨hF, h.1, rop_bd h.2⟩
  · split at h
    · rename_i hF
      simp only [Bool.and_eq_true, decide_eq_true_eq] at h
      exact .inr (.inl ⟨hF, h.1, h.2.1, h.2.2.1, rop_bd h.2.2.2⟩)
    · split at h
      · rename_i hF
        simp only [Bool.and_eq_true, decide_eq_true_eq, fit20] at h
        exact .inr (.inr (.inl ⟨hF, h.1, h.2.1, h.2.2.1, h.2.2.2⟩))
      · split at h
        · rename_i hF
          simp only [Bool.and_eq_true, decide_eq_true_eq, targetB] at h
          refine .inr (.inr (.inr ⟨hF, h.1, h.2.1, ?_⟩))
          have h2 := h.2.2
          split at h2
          · rename_i hU
            simp only [Bool.and_eq_true, decide_eq_true_eq, fit24] at h2
            exact .inl ⟨hU, h2.1, h2.2.1, h2.2.2⟩
          · rename_i hU
            exact .inr ⟨by simpa using hU, by simpa using h2⟩
        · cases h
def hiV (i : In) : Int := i.F * 1073741824 + bit i.U * 536870912 + bit i.V * 268435456 + i.A * 16777216
def packV (i : In) : Int := hiV i + (if i.F = 0 then i.B * 1048576 + i.O * 65536 + i.C else if i.F = 1 then i.B * 1048576 + i.O * 65536 + i.N else if i.F = 2 then i.B * 1048576 + i.N % 1048576 else i.C + i.N % 16777216)
theorem hi_or (K A : Int) (u v : Bool) (f0 : 0 ≤ K) (f1 : K ≤ 3221225472) (f2 : K % 1073741824 = 0) (a0 : 0 ≤ A) (a1 : A < 16) :
    bits .or .u32 (bits .or .u32 (bits .or .u32 K (bitV u 29)) (bitV v 28)) (A * 16777216) = K + bit u * 536870912 + bit v * 268435456 + A * 16777216 := by
  have hu := bit_bd u
  have hv := bit_bd v
  rw [show bitV u 29 = bit u * 536870912 by simp [bitV], show bitV v 28 = bit v * 268435456 by simp [bitV],
    or_add K (bit u * 536870912) 30 (by omega) (by omega) (by omega) (by omega) (by omega) (by omega),
    or_add _ (bit v * 268435456) 29 (by omega) (by omega) (by omega) (by omega) (by omega) (by omega),
    or_add _ (A * 16777216) 28 (by omega) (by omega) (by omega) (by omega) (by omega) (by omega)]
theorem low_or (T B O C : Int) (t0 : 0 ≤ T) (t1 : T ≤ 4294967295) (t2 : T % 16777216 = 0) (b0 : 0 ≤ B) (b1 : B < 16) (o0 : 0 ≤ O) (o1 : O < 16) (c0 : 0 ≤ C) (c1 : C < 65536) :
    bits .or .u32 (bits .or .u32 (bits .or .u32 T (B * 1048576)) (O * 65536)) C = T + (B * 1048576 + O * 65536 + C) := by
  rw [or_add T (B * 1048576) 24 (by omega) (by omega) (by omega) (by omega) (by omega) (by omega),
    or_add _ (O * 65536) 20 (by omega) (by omega) (by omega) (by omega) (by omega) (by omega),
    or_add _ C 16 (by omega) (by omega) (by omega) (by omega) (by omega) (by omega)]
  omega
theorem fldI_20 (N : Int) : fldI (N % 4294967296) 0 20 = N % 1048576 := by
  show N % 4294967296 / 1 % 1048576 = _
  omega
theorem fldI_24 (N : Int) : fldI (N % 4294967296) 0 24 = N % 16777216 := by
  show N % 4294967296 / 1 % 16777216 = _
  omega
theorem mem_or (T B x : Int) (t0 : 0 ≤ T) (t1 : T ≤ 4294967295) (t2 : T % 16777216 = 0) (b0 : 0 ≤ B) (b1 : B < 16) (c0 : 0 ≤ x) (c1 : x < 1048576) :
    bits .or .u32 (bits .or .u32 T (B * 1048576)) x = T + (B * 1048576 + x) := by
  rw [or_add T (B * 1048576) 24 (by omega) (by omega) (by omega) (by omega) (by omega) (by omega),
    or_add _ x 20 (by omega) (by omega) (by omega) (by omega) (by omega) (by omega)]
  omega
theorem or_zero (x : Int) (h0 : 0 ≤ x) (h1 : x ≤ 4294967295) : bits .or .u32 x 0 = x := by
  rw [or_add x 0 0 h0 h1 (by omega) (by omega) (by omega) (by omega)]; omega
theorem branch_or (T C x : Int) (t0 : 0 ≤ T) (t1 : T ≤ 4294967295) (t2 : T % 16777216 = 0) (c0 : 0 ≤ C) (c1 : C < 16) (x0 : 0 ≤ x) (x1 : x < 16777216) (h : C = 0 ∨ x = 0) :
    bits .or .u32 (bits .or .u32 T C) x = T + (C + x) := by
  rcases h with rfl | rfl
  · rw [or_zero T t0 t1, or_add T x 24 t0 t1 (by omega) x0 (by omega) (by omega)]; omega
  · rw [or_add T C 24 t0 t1 (by omega) c0 (by omega) (by omega), or_zero _ (by omega) (by omega)]; omega
theorem quiet_of2 {P : Program} {f : FuncId} {args : Array Value} {w : World} {a n : Nat} {v : Value}
    (h : Calls P f args (w.drewN (a + n)) fun e w' => e = .returned v ∧ ∃ m, w' = (w.drewN (a + n)).drewN m) : Calls P f args (w.drewN (a + n)) fun e w'' => e = .returned v ∧ ∃ m, w'' = w.drewN (a + m) :=
  h.mono fun _ _ ⟨he, m, hm⟩ => ⟨he, n + m, by rw [hm, World.drewN_drewN, Nat.add_assoc]⟩
set_option maxHeartbeats 1000000 in
theorem pack_any (i : In) (w : World) (h : Rt i) : Calls Tryz.prog 41 #[.agg i.cells] w fun e w' => e = .returned (.int .u32 (packV i)) ∧ Below w.heap.size w w' := by
  obtain ⟨⟨a0, a1⟩, ⟨b0, b1⟩, ⟨c0, c1⟩, hF⟩ := h
  have hu := bit_bd i.U
  have hv := bit_bd i.V
  rcases hF with ⟨hF, hN, o0, o1⟩ | ⟨hF, hC, n0, n1, o0, o1⟩ | ⟨hF, hC, hO, n0, n1⟩ | ⟨hF, hB, hO, hn⟩
  · have hi := hi_or 0 i.A i.U i.V (by omega) (by omega) (by omega) a0 a1
    have lo := low_or (0 + bit i.U * 536870912 + bit i.V * 268435456 + i.A * 16777216) i.B i.O i.C (by omega) (by omega) (by omega) b0 b1 o0 o1 c0 (by omega)
    have hp : packV i = 0 + bit i.U * 536870912 + bit i.V * 268435456 + i.A * 16777216 + (i.B * 1048576 + i.O * 65536 + i.C) := by simp [packV, hiV, hF]
    have HI : Hid (_ = _) := hi
    have LO : Hid (_ = _) := lo
    have HP : Hid (_ = _) := hp
    clear hi lo hp hu hv
    go_enter Tryz.func41, Tryz.ntmps41
    go_wp2
    go_quiet ((go_at_call 80; exact Calls.quiet_of_same (bitAt_any _ _ _ (by omega) (by omega))))
    go_wp2
    go_ret
    exact ⟨ret_int (by rw [HP.out, ← LO.out, ← HI.out]), bdrewN ((Below.refl _ _).alloc (Nat.le_refl _) _) _⟩
  · have hi := hi_or 1073741824 i.A i.U i.V (by omega) (by omega) (by omega) a0 a1
    have lo := low_or (1073741824 + bit i.U * 536870912 + bit i.V * 268435456 + i.A * 16777216) i.B i.O i.N (by omega) (by omega) (by omega) b0 b1 o0 o1 n0 (by omega)
    have hp : packV i = 1073741824 + bit i.U * 536870912 + bit i.V * 268435456 + i.A * 16777216 + (i.B * 1048576 + i.O * 65536 + i.N) := by simp [packV, hiV, hF]
    have HI : Hid (_ = _) := hi
    have LO : Hid (_ = _) := lo
    have HP : Hid (_ = _) := hp
    clear hi lo hp hu hv
    go_enter Tryz.func41, Tryz.ntmps41
    go_wp2
    go_quiet ((go_at_call 80; exact Calls.quiet_of_same (bitAt_any _ _ _ (by omega) (by omega))))
    go_wp2
    go_ret
    exact ⟨ret_int (by rw [HP.out, ← LO.out, ← HI.out]), bdrewN ((Below.refl _ _).alloc (Nat.le_refl _) _) _⟩
  · have hi := hi_or 2147483648 i.A i.U i.V (by omega) (by omega) (by omega) a0 a1
    have lo := mem_or (2147483648 + bit i.U * 536870912 + bit i.V * 268435456 + i.A * 16777216) i.B (i.N % 1048576) (by omega) (by omega) (by omega) b0 b1 (by omega) (by omega)
    have hp : packV i = 2147483648 + bit i.U * 536870912 + bit i.V * 268435456 + i.A * 16777216 + (i.B * 1048576 + i.N % 1048576) := by simp [packV, hiV, hF]
    have HI : Hid (_ = _) := hi
    have LO : Hid (_ = _) := lo
    have HP : Hid (_ = _) := hp
    clear hi lo hp hu hv
    go_enter Tryz.func41, Tryz.ntmps41
    go_wp2
    go_quiet ((go_at_call 80; exact Calls.quiet_of_same (bitAt_any _ _ _ (by omega) (by omega))))
    go_wp2
    go_quiet ((go_at_call 74; exact quiet_of2 (field_at _ _ _ _ (by omega) (by omega) (by omega) (by omega) (by omega) (by omega))))
    go_wp2
    go_ret
    exact ⟨ret_int (by rw [HP.out, ← LO.out, ← HI.out, ← fldI_20]), bdrewN (bdrewN ((Below.refl _ _).alloc (Nat.le_refl _) _) _) _⟩
  · have hi := hi_or 3221225472 i.A i.U i.V (by omega) (by omega) (by omega) a0 a1
    have lo := branch_or (3221225472 + bit i.U * 536870912 + bit i.V * 268435456 + i.A * 16777216) i.C (i.N % 16777216) (by omega) (by omega) (by omega) c0 c1 (by omega) (by omega) (by rcases hn with ⟨_, h, _⟩ | ⟨_, h⟩ <;> omega)
    have hp : packV i = 3221225472 + bit i.U * 536870912 + bit i.V * 268435456 + i.A * 16777216 + (i.C + i.N % 16777216) := by simp [packV, hiV, hF]
    have HI : Hid (_ = _) := hi
    have LO : Hid (_ = _) := lo
    have HP : Hid (_ = _) := hp
    clear hi lo hp hu hv hn
    go_enter Tryz.func41, Tryz.ntmps41
    go_wp2
    go_quiet ((go_at_call 80; exact Calls.quiet_of_same (bitAt_any _ _ _ (by omega) (by omega))))
    go_wp2
    go_quiet ((go_at_call 74; exact quiet_of2 (field_at _ _ _ _ (by omega) (by omega) (by omega) (by omega) (by omega) (by omega))))
    go_wp2
    go_ret
    exact ⟨ret_int (by rw [HP.out, ← LO.out, ← HI.out, ← fldI_24]), bdrewN (bdrewN ((Below.refl _ _).alloc (Nat.le_refl _) _) _) _⟩
end Go.Proofs.YtkidfnhgknkpiaaGreatDoor
