/-
  The document's branches.
-/
import Derived.Test.YtkhgeldnlffgjaaDoorHol
namespace Go.Proofs.YtkhgeldnlffgjaaDoor
open Go.ChangeShapes Go.WideShapes Go.ChangeAt Go.RowKit
attribute [local go_sem ↓] loadCpu_seal storeCpu_seal loadIn_seal storeIn_seal
attribute [local go_sem] loadCpu_run storeCpu_run loadIn_run storeIn_run rowAt_at rowAt_past rowAt_drew rowAt_drewN roomCpu_new roomIn_new roomAt_old roomAt_drew roomAt_drewN putCpu_new putIn_new Cp.zero_fold In.fold putRow_past rowCpu_put rowIn_put size_put putRow_drew putRow_drewN alloc_drewN setCell_drewN Cp.at16 Cp.at17 Cp.at18 Cp.at19 Cp.at20 Cp.at21 Cp.size Cp.set16 Cp.set17 Cp.set18 Cp.set19 Cp.set20 Cp.set21 In.at0 In.at1 In.at2 In.at3 In.at4 In.at5 In.at6 In.at7 In.size In.set0 In.set1 In.set2 In.set3 In.ne Cp.ne In.set4 In.set5 In.set6 In.set7
attribute [local go_sem ↓] eqlCpu_seal
set_option linter.unusedVariables false
theorem aim_pc (c : Cp) (n : Int) : (c.PC + 4 + wrap64 (4 * n)) % 4294967296 = (c.on.PC + 4 * n) % 4294967296 := by
  have hp : c.on.PC = (c.PC + 4) % 4294967296 := rfl
  rw [hp]
  unfold wrap64
  omega
attribute [local go_sem] put_cell put_room put_froz put21
/-- What is held behind Holds. -/
structure Held3 (w : World) (c : Cp) (i : In) (X : World) : Prop where
  k : Keeps w [(w.heap.size + 2, Cp.zero.cells), (w.heap.size + 1, i.cells), (w.heap.size, c.cells)] X
  row : rowAt X w.heap.size = some c.cells
  cell : ∀ j, X.cell? ⟨w.heap.size, j, none⟩ = c.cells[j]?
  icell : ∀ j, X.cell? ⟨w.heap.size + 1, j, none⟩ = i.cells[j]?
  r0 : roomAt X w.heap.size 22 = true
  r2 : roomAt X (w.heap.size + 1 + 1) 22 = true
  fr : ∀ j, j < 22 → X.frozen? ⟨w.heap.size, j, none⟩ = false
  set : ∀ v, X.setCell ⟨w.heap.size, 21, none⟩ (.int .u32 v) = putRow X w.heap.size ({ c with PC := v } : Cp).cells
  far : ∀ Z j, (putRow X w.heap.size Z).cell? ⟨w.heap.size + 1, j, none⟩ = i.cells[j]?
theorem Held3.of {w : World} {c : Cp} {i : In} {X : World} (k : Keeps w [(w.heap.size + 2, Cp.zero.cells), (w.heap.size + 1, i.cells), (w.heap.size, c.cells)] X) : Held3 w c i X :=
  ⟨k, k.row (by simp), k.cell (by simp), k.cell (by simp), k.room (b := w.heap.size) (c := c.cells) (by simp), k.room (b := w.heap.size + 2) (c := Cp.zero.cells) (by simp), fun j hj => k.froz (b := w.heap.size) (c := c.cells) (by simp) j (by rw [Cp.size]; exact hj), fun v => row_set (k.room (b := w.heap.size) (c := c.cells) (by simp)) (k.row (by simp)) (Cp.set21 c v), fun Z j => (put_cell_far X _ _ j Z (by omega)).trans (k.cell (by simp) j)⟩
set_option maxHeartbeats 2000000 in
theorem goes_any (c : Cp) (i : In) (w : World) (hC : 0 ≤ i.C ∧ i.C < 16) : Calls Tryd.prog 31 #[.agg c.cells, .agg i.cells] w fun e w' => e = .returned (.agg (c.branched i).cells) ∧ Below w.heap.size w w' := by
  have hrc := Cp.atR c i.C.toNat (by omega)
  have K0 : Hid (Keeps w [(w.heap.size + 2, Cp.zero.cells), (w.heap.size + 1, i.cells), (w.heap.size, c.cells)] (((w.alloc (.cells c.cells 38)).alloc (.cells i.cells 24)).alloc (.cells Cp.zero.cells 38))) := keeps3 w _ _ _ _ _ _
  obtain ⟨c0, c1⟩ := hC
  have hr15 : ∀ d : Cp, d.cells[15]? = some (.int .u32 (d.R 15)) := fun d => Cp.atR d 15 (by omega)
  have hs15 : ∀ X b (d : Cp) v, roomAt X b 22 = true → (putRow X b d.cells).setCell ⟨b, 15, none⟩ (.int .u32 v) = putRow X b (d.setR 15 v).cells := fun X b d v h => putR X b 15 d v h (by omega)
  cases hH : holdsB c i.A
  · have e : c.branched i = c.on := by
      unfold Cp.branched
      rw [show holdsB c.on i.A = holdsB c i.A from rfl, hH]; rfl
    rw [e]
    go_enter Tryd.func31, Tryd.ntmps31
    go_wp2_with (go_at_call 52; refine (rholds_any c i.A _).mono ?_; rintro e w1 ⟨rfl, hb⟩; have HK : Hid (Held3 w c i w1) := Held3.of (K0.out.call hb); have q1 := HK.out.row; have q2 := HK.out.cell; have q3 := HK.out.icell; have q4 := HK.out.r0; have q5 := HK.out.r2; have q6 := HK.out.fr 21 (by omega); have q7 := HK.out.set; have q8 := HK.out.far; rw [hH]; clear hb)
    exact ret_cell1 rfl rfl (loadCpu_row (rowCpu_put _ _ _ (by rw [put_room _ _ _ _ _ q4]; exact q5))) rfl ⟨rfl, below_put (below_put HK.out.k.1 _ (Nat.le_refl _) _) _ (by omega) _⟩
  · have e : c.branched i = c.aimed i := by
      unfold Cp.branched
      rw [show holdsB c.on i.A = holdsB c i.A from rfl, hH]; rfl
    rw [e]
    cases hU : i.U
    all_goals cases hV : i.V
    all_goals
      go_enter Tryd.func31, Tryd.ntmps31
      go_wp2_with (go_at_call 52; refine (rholds_any c i.A _).mono ?_; rintro e w1 ⟨rfl, hb⟩; have HK : Hid (Held3 w c i w1) := Held3.of (K0.out.call hb); have q1 := HK.out.row; have q2 := HK.out.cell; have q3 := HK.out.icell; have q4 := HK.out.r0; have q5 := HK.out.r2; have q6 := HK.out.fr 21 (by omega); have q7 := HK.out.set; have q8 := HK.out.far; rw [hH]; clear hb)
      refine ret_cell1 rfl rfl (loadCpu_row (rowCpu_put _ _ _ (by rw [put_room _ _ _ _ _ q4]; exact q5))) rfl ⟨?_, below_put (below_put HK.out.k.1 _ (Nat.le_refl _) _) _ (by omega) _⟩
      unfold Cp.aimed
      simp only [hU, hV, Bool.false_eq_true, if_false, if_true]
      first | rfl | (rw [aim_pc]; rfl)
end Go.Proofs.YtkhgeldnlffgjaaDoor
