/-
  Contracts of the document's laid, Encode and Decode: each answers as the program's.
-/
import Derived.Test.YtmldlkcgaepaaaaGreatDoorMRightR
namespace Go.Proofs.YtmldlkcgaepaaaaGreatDoor
open Go.ChangeShapes Go.WideShapes Go.ChangeAt Go.RowKit
attribute [local go_sem ↓] loadIn_seal storeIn_seal
attribute [local go_sem] loadIn_run storeIn_run rowAt_at rowAt_old rowAt_drew rowAt_drewN roomCpu_new roomIn_new roomAt_old roomAt_drew roomAt_drewN putCpu_new putIn_new Cp.zero_fold In.fold putRow_past rowCpu_put rowIn_put size_put putRow_drew putRow_drewN alloc_drewN setCell_drewN Cp.at16 Cp.at17 Cp.at18 Cp.at19 Cp.at20 Cp.at21 Cp.size Cp.set16 Cp.set17 Cp.set18 Cp.set19 Cp.set20 Cp.set21 In.at0 In.at1 In.at2 In.at3 In.at4 In.at5 In.at6 In.at7 In.size In.set0 In.set1 In.set2 In.set3 In.ne Cp.ne In.set4 In.set5 In.set6 In.set7

theorem hi_or2 (K A : Int) (u v : Bool) (f0 : 0 ≤ K) (f1 : K ≤ 3221225472) (f2 : K % 1073741824 = 0) (a0 : 0 ≤ A) (a1 : A < 16) :
    bits .or .u32 (bits .or .u32 (bits .or .u32 K (bit u * 536870912)) (bit v * 268435456)) (A * 16777216) = K + bit u * 536870912 + bit v * 268435456 + A * 16777216 := by
  have := hi_or K A u v f0 f1 f2 a0 a1
  rwa [show bitV u 29 = bit u * 536870912 by simp [bitV], show bitV v 28 = bit v * 268435456 by simp [bitV]] at this
theorem and20 (N : Int) : bits .and .u32 (N % 4294967296) 1048575 = N % 1048576 := by
  have := and_mask (N % 4294967296) 20 (by omega) (by omega) (by omega)
  have e : (2 : Int) ^ 20 = 1048576 := by decide
  rw [e] at this
  rw [show (1048575 : Int) = 1048576 - 1 by omega, this]; omega
theorem and24 (N : Int) : bits .and .u32 (N % 4294967296) 16777215 = N % 16777216 := by
  have := and_mask (N % 4294967296) 24 (by omega) (by omega) (by omega)
  have e : (2 : Int) ^ 24 = 16777216 := by decide
  rw [e] at this
  rw [show (16777215 : Int) = 16777216 - 1 by omega, this]; omega
theorem branch_or2 (T C x : Int) (t0 : 0 ≤ T) (t1 : T ≤ 4294967295) (t2 : T % 16777216 = 0) (c0 : 0 ≤ C) (c1 : C < 16) (x0 : 0 ≤ x) (x1 : x < 16777216) (h : C = 0 ∨ x = 0) :
    bits .or .u32 (bits .or .u32 T x) C = T + (C + x) := by
  rcases h with rfl | rfl
  · rw [or_add T x 24 t0 t1 (by omega) x0 (by omega) (by omega), or_zero _ (by omega) (by omega)]; omega
  · rw [or_zero T t0 t1, or_add T C 24 t0 t1 (by omega) c0 (by omega) (by omega)]; omega
set_option maxHeartbeats 1000000 in
theorem laid_any (i : In) (w : World) (h : Rt i) : Calls Tryz.prog 58 #[.agg i.cells] w fun e w' => e = .returned (.int .u32 (packV i)) ∧ Below w.heap.size w w' := by
  obtain ⟨⟨a0, a1⟩, ⟨b0, b1⟩, ⟨c0, c1⟩, hF⟩ := h
  have hu := bit_bd i.U
  have hv := bit_bd i.V
  rcases hF with ⟨hF, hN, o0, o1⟩ | ⟨hF, hC, n0, n1, o0, o1⟩ | ⟨hF, hC, hO, n0, n1⟩ | ⟨hF, hB, hO, hn⟩
  · have hi := hi_or2 0 i.A i.U i.V (by omega) (by omega) (by omega) a0 a1
    have lo := low_or (0 + bit i.U * 536870912 + bit i.V * 268435456 + i.A * 16777216) i.B i.O 0 (by omega) (by omega) (by omega) b0 b1 o0 o1 (by omega) (by omega)
    have hp : packV i = 0 + bit i.U * 536870912 + bit i.V * 268435456 + i.A * 16777216 + (i.B * 1048576 + i.O * 65536 + i.C) := by simp [packV, hiV, hF]
    have la := or_add (0 + bit i.U * 536870912 + bit i.V * 268435456 + i.A * 16777216 + (i.B * 1048576 + i.O * 65536 + 0)) i.C 16 (by omega) (by omega) (by omega) (by omega) (by omega) (by omega)
    have HE : Hid (bits .or .u32 (bits .or .u32 (bits .or .u32 (bits .or .u32 (bits .or .u32 (bits .or .u32 (bits .or .u32 0 (bit i.U * 536870912)) (bit i.V * 268435456)) (i.A * 16777216)) (i.B * 1048576)) (i.O * 65536)) 0) i.C = packV i) := by
      show _ = _
      rw [hi, lo, la, hp]; omega
    clear hi lo hp la
    go_enter Tryz.func58, Tryz.ntmps58
    go_wp2
    go_quiet ((go_at_call 93; exact Calls.quiet_of_same (rbit_any _ _)))
    go_wp2
    go_ret
    exact ⟨ret_int HE.out, bdrewN ((Below.refl _ _).alloc (Nat.le_refl _) _) _⟩
  · have hi := hi_or2 1073741824 i.A i.U i.V (by omega) (by omega) (by omega) a0 a1
    have lo := low_or (1073741824 + bit i.U * 536870912 + bit i.V * 268435456 + i.A * 16777216) i.B i.O i.N (by omega) (by omega) (by omega) b0 b1 o0 o1 n0 (by omega)
    have hp : packV i = 1073741824 + bit i.U * 536870912 + bit i.V * 268435456 + i.A * 16777216 + (i.B * 1048576 + i.O * 65536 + i.N) := by simp [packV, hiV, hF]
    have la := or_zero (1073741824 + bit i.U * 536870912 + bit i.V * 268435456 + i.A * 16777216 + (i.B * 1048576 + i.O * 65536 + i.N)) (by omega) (by omega)
    have HE : Hid (bits .or .u32 (bits .or .u32 (bits .or .u32 (bits .or .u32 (bits .or .u32 (bits .or .u32 (bits .or .u32 1073741824 (bit i.U * 536870912)) (bit i.V * 268435456)) (i.A * 16777216)) (i.B * 1048576)) (i.O * 65536)) i.N) 0 = packV i) := by
      show _ = _
      rw [hi, lo, la, hp]
    clear hi lo hp la
    go_enter Tryz.func58, Tryz.ntmps58
    go_wp2
    go_quiet ((go_at_call 93; exact Calls.quiet_of_same (rbit_any _ _)))
    go_wp2
    go_ret
    exact ⟨ret_int HE.out, bdrewN ((Below.refl _ _).alloc (Nat.le_refl _) _) _⟩
  · have hi := hi_or2 2147483648 i.A i.U i.V (by omega) (by omega) (by omega) a0 a1
    have lo := mem_or (2147483648 + bit i.U * 536870912 + bit i.V * 268435456 + i.A * 16777216) i.B (i.N % 1048576) (by omega) (by omega) (by omega) b0 b1 (by omega) (by omega)
    have hp : packV i = 2147483648 + bit i.U * 536870912 + bit i.V * 268435456 + i.A * 16777216 + (i.B * 1048576 + i.N % 1048576) := by simp [packV, hiV, hF]
    have HE : Hid (bits .or .u32 (bits .or .u32 (bits .or .u32 (bits .or .u32 (bits .or .u32 2147483648 (bit i.U * 536870912)) (bit i.V * 268435456)) (i.A * 16777216)) (i.B * 1048576)) (bits .and .u32 (i.N % 4294967296) 1048575) = packV i) := by
      show _ = _
      rw [hi, and20, lo, hp]
    clear hi lo hp
    go_enter Tryz.func58, Tryz.ntmps58
    go_wp2
    go_quiet ((go_at_call 93; exact Calls.quiet_of_same (rbit_any _ _)))
    go_wp2
    go_ret
    exact ⟨ret_int HE.out, bdrewN ((Below.refl _ _).alloc (Nat.le_refl _) _) _⟩
  · have hi := hi_or2 3221225472 i.A i.U i.V (by omega) (by omega) (by omega) a0 a1
    have lo := branch_or2 (3221225472 + bit i.U * 536870912 + bit i.V * 268435456 + i.A * 16777216) i.C (i.N % 16777216) (by omega) (by omega) (by omega) c0 c1 (by omega) (by omega) (by rcases hn with ⟨_, h, _⟩ | ⟨_, h⟩ <;> omega)
    have hp : packV i = 3221225472 + bit i.U * 536870912 + bit i.V * 268435456 + i.A * 16777216 + (i.C + i.N % 16777216) := by simp [packV, hiV, hF]
    have HE : Hid (bits .or .u32 (bits .or .u32 (bits .or .u32 (bits .or .u32 (bits .or .u32 3221225472 (bit i.U * 536870912)) (bit i.V * 268435456)) (i.A * 16777216)) (bits .and .u32 (i.N % 4294967296) 16777215)) i.C = packV i) := by
      show _ = _
      rw [hi, and24, lo, hp]
    clear hi lo hp hn
    go_enter Tryz.func58, Tryz.ntmps58
    go_wp2
    go_quiet ((go_at_call 93; exact Calls.quiet_of_same (rbit_any _ _)))
    go_wp2
    go_ret
    exact ⟨ret_int HE.out, bdrewN ((Below.refl _ _).alloc (Nat.le_refl _) _) _⟩
theorem rencode_any (i : In) (w : World) : Calls Tryz.prog 32 #[.agg i.cells] w fun e w' => e = .returned (.tuple #[.int .u32 (encW i), .int .i64 (encE i)]) ∧ Below w.heap.size w w' := by
  cases hr : rightB i
  · have h1 : encW i = 0 := by simp [encW, hr]
    have h2 : encE i = 20 := by simp [encE, hr]
    rw [h1, h2]
    clear h1 h2
    go_enter Tryz.func32, Tryz.ntmps32
    go_wp2_with (go_at_call 57; refine (rright_any i _).mono ?_; rw [hr]; rintro e w1 ⟨rfl, hb⟩)
    go_ret2
    exact ⟨rfl, ((Below.refl _ _).alloc (Nat.le_refl _) _).trans (hb.mono (by simp))⟩
  · have h1 : encW i = packV i := by simp [encW, hr]
    have h2 : encE i = 0 := by simp [encE, hr]
    have HR : Hid (Rt i) := right_bd hr
    rw [h1, h2]
    clear h1 h2
    go_enter Tryz.func32, Tryz.ntmps32
    go_wp2_with (first | (go_at_call 57; refine (rright_any i _).mono ?_; rw [hr]; rintro e w1 ⟨rfl, hb⟩; obtain ⟨hc, hq, hm, hz⟩ := bcell hb) | (go_at_call 58; refine (laid_any i _ HR.out).mono ?_; rintro e w2 ⟨rfl, hb2⟩))
    go_ret2
    exact ⟨rfl, (((Below.refl _ _).alloc (Nat.le_refl _) _).trans (hb.mono (by simp))).trans (hb2.mono (by have := hb.size; simp at this; omega))⟩
end Go.Proofs.YtmldlkcgaepaaaaGreatDoor
