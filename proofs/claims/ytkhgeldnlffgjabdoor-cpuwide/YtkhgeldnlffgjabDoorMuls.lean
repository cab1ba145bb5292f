/-
  Contracts of MUL, of Exec where DIV traps, and of the law's helper two, over registers alone.
-/
import Derived.Test.YtkhgeldnlffgjabDoorOps
import Derived.Test.YtkhgeldnlffgjabDoorOps
namespace Go.Proofs.YtkhgeldnlffgjabDoor
open Go.ChangeShapes Go.WideShapes Go.ChangeAt Go.RowKit
attribute [local go_sem ↓] loadCpu_seal storeCpu_seal loadIn_seal storeIn_seal
attribute [local go_sem] loadCpu_run storeCpu_run loadIn_run storeIn_run rowAt_at rowAt_past rowAt_drew rowAt_drewN roomCpu_new roomIn_new roomAt_old roomAt_drew roomAt_drewN putCpu_new putIn_new Cp.zero_fold In.fold putRow_past rowCpu_put rowIn_put size_put putRow_drew putRow_drewN alloc_drewN setCell_drewN Cp.at16 Cp.at17 Cp.at18 Cp.at19 Cp.at20 Cp.at21 Cp.size Cp.set16 Cp.set17 Cp.set18 Cp.set19 Cp.set20 Cp.set21 In.at0 In.at1 In.at2 In.at3 In.at4 In.at5 In.at6 In.at7 In.size In.set0 In.set1 In.set2 In.set3 In.ne Cp.ne In.set4 In.set5 In.set6 In.set7
attribute [local go_sem ↓] eqlCpu_seal

theorem heap_setCell_other (w : World) (g i b : Nat) (v : Value) (h : b ≠ g) : (w.setCell ⟨g, i, none⟩ v).heap[b]? = w.heap[b]? := by
  unfold World.setCell
  simp [Array.getElem?_modify, Ne.symm h]
theorem Keeps.set1 {w X : World} {b1 b2 b3 : Nat} {c1 c2 c3 : Array Value} (h : Keeps w [(b3, c3), (b2, c2), (b1, c1)] X) (j : Nat) (v : Value) (h2 : b2 ≠ b1) (h3 : b3 ≠ b1) (hb : w.heap.size ≤ b1) :
    Keeps w [(b3, c3), (b2, c2), (b1, c1.setIfInBounds j v)] (X.setCell ⟨b1, j, none⟩ v) := by
  have o : ∀ b, b ≠ b1 → (X.setCell ⟨b1, j, none⟩ v).heap[b]? = X.heap[b]? := fun b hb => heap_setCell_other X b1 j b v hb
  refine ⟨h.1.setCell hb _, fun r hr => ?_⟩
  simp only [List.mem_cons, List.not_mem_nil, or_false] at hr
  rcases hr with rfl | rfl | rfl
  · have := h.2 (b3, c3) (by simp)
    exact ⟨by unfold rowAt; rw [o _ h3]; exact this.1, by unfold roomAt; rw [o _ h3]; exact this.2.1, by simpa using this.2.2⟩
  · have := h.2 (b2, c2) (by simp)
    exact ⟨by unfold rowAt; rw [o _ h2]; exact this.1, by unfold roomAt; rw [o _ h2]; exact this.2.1, by simpa using this.2.2⟩
  · obtain ⟨q1, q2, q3⟩ := h.2 (b1, c1) (by simp)
    simp only at q1 q2 q3
    unfold rowAt at q1
    unfold roomAt at q2
    split at q1
    · rename_i cs t fr hb1
      cases q1
      rw [hb1] at q2
      have hn := Go.Joins.block_setCell (i := j) hb1 v
      refine ⟨by unfold rowAt; rw [hn], by unfold roomAt; rw [hn]; simpa using q2, by simpa using q3⟩
    · cases q1
theorem Keeps.froz {w X : World} {rows : List (Nat × Array Value)} (h : Keeps w rows X) {b : Nat} {c : Array Value} (hr : (b, c) ∈ rows) (j : Nat) (hj : j < c.size) : X.frozen? ⟨b, j, none⟩ = false := by
  have := (room_there (h.room hr) j hj).2
  simpa using this
theorem mul_bds (b x : Int) (u : Bool) (b0 : 0 ≤ b) (b1 : b ≤ 4294967295) (x0 : 0 ≤ x) (x1 : x ≤ 4294967295) : 0 ≤ mulL b x u ∧ mulL b x u ≤ 4294967295 ∧ 0 ≤ mulH b x u ∧ mulH b x u ≤ 4294967295 := by
  have hp : 0 ≤ mulP b x u ∧ mulP b x u < 18446744073709551616 := by
    unfold mulP
    split
    · have h1 := Int.mul_nonneg b0 x0
      have h2 : b * x ≤ 4294967295 * x := Int.mul_le_mul_of_nonneg_right b1 x0
      omega
    · omega
  unfold mulL mulH
  omega
theorem operate_mul (c : Cp) (i : In) (w : World) (hc : c.Ok) (hF : i.F = 0) (hO : i.O = 10) (hA : 0 ≤ i.A ∧ i.A < 16) (hB : 0 ≤ i.B ∧ i.B < 16) (hC : 0 ≤ i.C ∧ i.C < 16) :
    Calls Tryd.prog 15 #[.agg c.cells, .agg i.cells] w fun e w' => e = .returned (.agg (c.multiplied i (c.R i.B.toNat) (c.R i.C.toNat)).cells) ∧ Below w.heap.size w w' := by
  have hrb := Cp.atR c i.B.toNat (by omega)
  have HB := hc.R i.B.toNat (by omega)
  have HC := hc.R i.C.toNat (by omega)
  obtain ⟨b0, b1⟩ := hB
  have K0 : Hid (Keeps w [(w.heap.size + 2, Cp.zero.cells), (w.heap.size + 1, i.cells), (w.heap.size, c.cells)] (((w.alloc (.cells c.cells 25)).alloc (.cells i.cells 27)).alloc (.cells Cp.zero.cells 25))) := keeps3 w _ _ _ _ _ _
  go_enter Tryd.func15, Tryd.ntmps15
  go_wp2
  go_region_held3 (fun X => Keeps w [(w.heap.size + 2, Cp.zero.cells), (w.heap.size + 1, i.cells), (w.heap.size, c.cells)] X ∧ rowAt X w.heap.size = some c.cells ∧ rowAt X (w.heap.size + 1) = some i.cells ∧ (∀ j, X.cell? ⟨w.heap.size, j, none⟩ = c.cells[j]?) ∧ (∀ j, X.cell? ⟨w.heap.size + 1, j, none⟩ = i.cells[j]?)) (first | exact Keeps.three (Keeps.drew K0.out) | exact Keeps.step3 (by assumption) (by assumption)) (first | (go_at_call 27; refine (operand_reg c i _ hF hC.1 hC.2).mono ?_; rintro e w1 ⟨rfl, hb⟩))
  rename_i hh
  obtain ⟨hk, r1, r2, l1, l2⟩ := hh
  have HK : Hid (Keeps w [(w.heap.size + 2, Cp.zero.cells), (w.heap.size + 1, i.cells), (w.heap.size, c.cells)] w1) := hk
  clear hk hb K0
  have ML := mul_bds (c.R i.B.toNat) (c.R i.C.toNat) i.U HB.1 HB.2 HC.1 HC.2
  have fz := HK.out.froz (b := w.heap.size) (c := c.cells) (by simp) 16 (by rw [Cp.size]; omega)
  have HS : Hid (Keeps w [(w.heap.size + 2, Cp.zero.cells), (w.heap.size + 1, i.cells), (w.heap.size, ({ c with H := mulH (c.R i.B.toNat) (c.R i.C.toNat) i.U } : Cp).cells)] (w1.setCell ⟨w.heap.size, 16, none⟩ (.int .u32 (mulH (c.R i.B.toNat) (c.R i.C.toNat) i.U)))) := HK.out.set1 16 _ (by omega) (by omega) (Nat.le_refl _)
  have s1 := HS.out.row (b := w.heap.size) (c := ({ c with H := mulH (c.R i.B.toNat) (c.R i.C.toNat) i.U } : Cp).cells) (by simp)
  have s2 := HS.out.cell (b := w.heap.size + 1) (c := i.cells) (by simp)
  go_wp2_with (first | (go_at_call 31; refine (mul_any _ _ _ _ HB.1 HB.2 HC.1 HC.2).mono ?_; rintro e w' ⟨rfl, hx⟩; obtain rfl := hx.symm; clear hx) | (go_at_call 24; refine (write_any _ _ _ _ hA.1 hA.2 ML.1 ML.2.1).mono ?_; rintro e w2 ⟨rfl, hb2⟩; have hr2 : roomAt w2 (w.heap.size + 2) 22 = true := (HS.out.call hb2).room (c := Cp.zero.cells) (by simp)))
  exact ret_cell1 rfl rfl (loadCpu_row (rowCpu_put _ _ _ hr2)) rfl ⟨rfl, below_put (HS.out.call hb2).1 _ (by omega) _⟩
end Go.Proofs.YtkhgeldnlffgjabDoor
