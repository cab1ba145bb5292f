/-
  The document's sums, products and quotients of processors.
-/
import Derived.Test.YteegkhnikcioiaaGreatDoorMCPuts
namespace Go.Proofs.YteegkhnikcioiaaGreatDoor.Cpu
open Go.ChangeShapes Go.WideShapes Go.ChangeAt Go.RowKit
attribute [local go_sem ↓] loadCpu_seal storeCpu_seal loadIn_seal storeIn_seal
attribute [local go_sem] loadCpu_run storeCpu_run loadIn_run storeIn_run rowAt_at rowAt_past rowAt_drew rowAt_drewN roomCpu_new roomIn_new roomAt_old roomAt_drew roomAt_drewN putCpu_new putIn_new Cp.zero_fold In.fold putRow_past rowCpu_put rowIn_put size_put putRow_drew putRow_drewN alloc_drewN setCell_drewN Cp.at16 Cp.at17 Cp.at18 Cp.at19 Cp.at20 Cp.at21 Cp.size Cp.set16 Cp.set17 Cp.set18 Cp.set19 Cp.set20 Cp.set21 In.at0 In.at1 In.at2 In.at3 In.at4 In.at5 In.at6 In.at7 In.size In.set0 In.set1 In.set2 In.set3 In.ne Cp.ne In.set4 In.set5 In.set6 In.set7
attribute [local go_sem ↓] eqlCpu_seal
set_option linter.unusedVariables false

theorem ret2l {k l : IntKind} {a a' b b' : Int} (h : a = a') (g : b = b') : Ending.returned (.tuple #[.int k a, .int l b]) = .returned (.tuple #[.int k a', .int l b']) := by rw [h, g]
theorem down_any (a b : Int) (w : World) (ha : -2147483648 ≤ a ∧ a ≤ 2147483647) (hb : 0 < b ∧ b ≤ 2147483647) : Calls Tryz.prog 121 #[.int .i64 a, .int .i64 b] w fun e w' => e = .returned (.tuple #[.int .i64 (a / b), .int .i64 (a % b)]) ∧ w' = w := by
  obtain ⟨q1, q2, q3, q4, q5⟩ := quot a b hb.1
  have tb := tdiv_bd a b ha
  have q6 : (a.tdiv b - 1) * b = a - a.tmod b - b := by rw [Int.sub_mul]; omega
  have hb0 : b ≠ 0 := by omega
  by_cases hr : a.tmod b < 0
  · have H : Hid (a / b = a.tdiv b - 1 ∧ a % b = a.tmod b + b) := q1 hr
    clear q1 q2
    go_enter Tryz.func121, Tryz.ntmps121
    go_wp2
    go_ret2
    exact ⟨ret2l (by rw [H.out.1]; try omega) (by rw [H.out.2]; try omega), rfl⟩
  · have H : Hid (a / b = a.tdiv b ∧ a % b = a.tmod b) := q2 (by omega)
    clear q1 q2
    go_enter Tryz.func121, Tryz.ntmps121
    go_wp2
    go_ret2
    exact ⟨ret2l (by rw [H.out.1]; try omega) (by rw [H.out.2]; try omega), rfl⟩
theorem ret_got {c : Cp} {h h' a x x' : Int} (e1 : h = h') (e2 : x = x') : Ending.returned (.agg (({ c with H := h } : Cp).got a x).cells) = .returned (.agg (({ c with H := h' } : Cp).got a x').cells) := by rw [e1, e2]
set_option maxHeartbeats 1000000 in
theorem product_any (c : Cp) (i : In) (b x : Int) (w : World) (hA : 0 ≤ i.A ∧ i.A < 16) (b0 : 0 ≤ b) (b1 : b ≤ 4294967295) (x0 : 0 ≤ x) (x1 : x ≤ 4294967295) : Calls Tryz.prog 120 #[.agg c.cells, .agg i.cells, .int .u32 b, .int .u32 x] w fun e w' => e = .returned (.agg (({ c with H := mulH b x i.U } : Cp).got i.A (mulL b x i.U)).cells) ∧ Below w.heap.size w w' := by
  have sa := sg_bd b b0 b1
  have sb := sg_bd x x0 x1
  have sp := mul_bd _ _ sa sb
  have hp0 : 0 ≤ b * x := Int.mul_nonneg b0 x0
  have hp1 : b * x ≤ 4294967295 * 4294967295 := Int.mul_le_mul b1 x1 x0 (by omega)
  cases hU : i.U
  all_goals
    go_enter Tryz.func120, Tryz.ntmps120
    go_wp2_with (first
      | (go_at_call 117; refine (number_any _ _ (by omega) (by omega)).mono ?_; rintro e w' ⟨rfl, hx⟩; obtain rfl := hx.symm; clear hx)
      | (go_at_call 93; refine (gets_any _ _ _ _ hA.1 hA.2 (by omega) (by omega)).mono ?_; rintro e w1 ⟨rfl, hb⟩; have hr1 : roomAt w1 (w.heap.size + 2) 22 = true := (roomAt_below hb _ _ (by simp)).trans (roomCpu_new _ _ _ _ (by simp))))
    refine ret_cell1 rfl rfl (loadCpu_row (rowCpu_put _ _ _ hr1)) rfl ⟨?_, below_put (Below.trans (by go_grown) (hb.mono (by simp; omega))) _ (by omega) _⟩
    exact ret_got (by simp [mulH, mulP, wrap_u64]; try omega) (by simp [mulL, mulP, wrap_u64]; try omega)
theorem sum_ret (c : Cp) (a S S' : Int) (C C' V V' : Bool) (h : S = S') (hC : C = C') (hV : V = V') : Ending.returned (.agg ({ c.got a S with C := C, V := V } : Cp).cells) = .returned (.agg ({ (({ c with C := C', V := V' } : Cp).wrote a S') with PC := c.PC } : Cp).cells) := by subst h hC hV; rfl
attribute [local go_sem] put_cell put_room put_froz put19 put20
set_option maxHeartbeats 2000000 in
theorem summed_any (c : Cp) (i : In) (b x : Int) (w : World) (hO : i.O = 8 ∨ i.O = 9) (hA : 0 ≤ i.A ∧ i.A < 16) (b0 : 0 ≤ b) (b1 : b ≤ 4294967295) (x0 : 0 ≤ x) (x1 : x ≤ 4294967295) : Calls Tryz.prog 119 #[.agg c.cells, .agg i.cells, .int .u32 b, .int .u32 x] w fun e w' => e = .returned (.agg ({ (if i.O = 8 then c.added i b x else c.subbed i b x) with PC := c.PC } : Cp).cells) ∧ Below w.heap.size w w' := by
  have sa := sg_bd b b0 b1
  have sb := sg_bd x x0 x1
  have K0 : Hid (Keeps w [(w.heap.size + 2, Cp.zero.cells), (w.heap.size + 1, i.cells), (w.heap.size, c.cells)] (((w.alloc (.cells c.cells 45)).alloc (.cells i.cells 123)).alloc (.cells Cp.zero.cells 45))) := keeps3 w _ _ _ _ _ _
  rcases hO with hO | hO
  all_goals cases hU : i.U
  all_goals cases hCc : c.C
  all_goals
    go_enter Tryz.func119, Tryz.ntmps119
    go_wp2_with (first
      | (go_at_call 117; refine (number_any _ _ (by omega) (by omega)).mono ?_; rintro e w' ⟨rfl, hx⟩; obtain rfl := hx.symm; clear hx)
      | (go_at_call 93; refine (gets_any _ _ _ _ hA.1 hA.2 (by omega) (by omega)).mono ?_; rintro e w1 ⟨rfl, hb⟩; have HK : Hid (Keeps w [(w.heap.size + 2, Cp.zero.cells), (w.heap.size + 1, i.cells), (w.heap.size, c.cells)] w1) := K0.out.call hb; have r1 : roomAt w1 w.heap.size 22 = true := HK.out.room (b := w.heap.size) (c := c.cells) (by simp); have r2 : roomAt w1 (w.heap.size + 1 + 1) 22 = true := HK.out.room (b := w.heap.size + 2) (c := Cp.zero.cells) (by simp)))
    all_goals refine ret_cell1 rfl rfl (loadCpu_row (rowCpu_put _ _ _ (by rw [put_room _ _ _ _ _ r1]; exact r2))) rfl ⟨?_, below_put (below_put HK.out.1 _ (Nat.le_refl _) _) _ (by omega) _⟩
    all_goals first
      | exact sum_ret c i.A _ (addS b x (i.U && c.C)) _ (addC b x (i.U && c.C)) _ (addV b x (i.U && c.C)) (by simp [addS, bit, hU, hCc]) (by rw [Bool.eq_iff_iff]; simp [addC, bit, hU, hCc]; omega) (by rw [Bool.eq_iff_iff]; simp [addV, lv, bit, hU, hCc]; omega)
      | exact sum_ret c i.A _ (subS b x (i.U && c.C)) _ (subC b x (i.U && c.C)) _ (subV b x (i.U && c.C)) (by simp [subS, bit, hU, hCc]) (by rw [Bool.eq_iff_iff]; simp [subC, bit, hU, hCc]; omega) (by rw [Bool.eq_iff_iff]; simp [subV, lv, bit, hU, hCc]; omega)
end Go.Proofs.YteegkhnikcioiaaGreatDoor.Cpu
