/-
  The document's Access answers as the program's, for every processor and instruction.
-/
import Derived.Test.YtpiiidelmcnhnaaDoorAcc
namespace Go.Proofs.YtpiiidelmcnhnaaDoor
open Go.ChangeShapes Go.WideShapes Go.ChangeAt Go.RowKit
attribute [local go_sem ↓] loadCpu_seal storeCpu_seal loadIn_seal storeIn_seal
attribute [local go_sem] loadCpu_run storeCpu_run loadIn_run storeIn_run rowAt_at rowAt_past rowAt_drew rowAt_drewN roomCpu_new roomIn_new roomAt_old roomAt_drew roomAt_drewN putCpu_new putIn_new Cp.zero_fold In.fold putRow_past rowCpu_put rowIn_put size_put putRow_drew putRow_drewN alloc_drewN setCell_drewN Cp.at16 Cp.at17 Cp.at18 Cp.at19 Cp.at20 Cp.at21 Cp.size Cp.set16 Cp.set17 Cp.set18 Cp.set19 Cp.set20 Cp.set21 In.at0 In.at1 In.at2 In.at3 In.at4 In.at5 In.at6 In.at7 In.size In.set0 In.set1 In.set2 In.set3 In.ne Cp.ne In.set4 In.set5 In.set6 In.set7
attribute [local go_sem ↓] loadAc_seal storeAc_seal
attribute [local go_sem] loadAc_run storeAc_run putAc_new roomAc_new rowAc_put Ac.at0 Ac.at1 Ac.at2 Ac.size Ac.set0 Ac.set1 Ac.set2 Ac.ne Ac.fold

theorem Keeps.alloc {w : World} {rows : List (Nat × Array Value)} {X : World} (h : Keeps w rows X) (o : Obj) : Keeps w rows (X.alloc o) :=
  ⟨h.1.alloc h.1.size _, fun r hr => by
    have := h.2 r hr
    exact ⟨(rowAt_past _ _ _ this.2.2).trans this.1, (roomAt_old _ _ _ _ this.2.2).trans this.2.1, by simp; omega⟩⟩
set_option maxHeartbeats 2000000 in
theorem raccess_any (c : Cp) (i : In) (w : World) (hc : c.Ok) : Calls Tryd.prog 15 #[.agg c.cells, .agg i.cells] w fun e w' => e = .returned (.agg (accA c i).cells) ∧ Below w.heap.size w w' := by
  have K0 : Hid (Keeps w [(w.heap.size + 2, ({ K := 0, D := 0, V := 0 } : Ac).cells), (w.heap.size + 1, i.cells), (w.heap.size, c.cells)] (((w.alloc (.cells c.cells 38)).alloc (.cells i.cells 24)).alloc (.cells ({ K := 0, D := 0, V := 0 } : Ac).cells 40))) := keeps3 w _ _ _ _ _ _
  cases hr : rightB i
  · have ha : accA c i = { K := 0, D := 0, V := 0 } := by simp [accA, hr]
    rw [ha]
    clear ha
    go_enter Tryd.func15, Tryd.ntmps15
    go_wp2_with (go_at_call 23; refine (rright_any i _).mono ?_; rw [hr]; rintro e w1 ⟨rfl, hb⟩; have HK : Hid (Keeps w [(w.heap.size + 2, ({ K := 0, D := 0, V := 0 } : Ac).cells), (w.heap.size + 1, i.cells), (w.heap.size, c.cells)] w1) := K0.out.call hb; have q5 : roomAt w1 (w.heap.size + 1 + 1) 3 = true := HK.out.room (b := w.heap.size + 2) (c := ({ K := 0, D := 0, V := 0 } : Ac).cells) (by simp); have l1 := HK.out.cell (b := w.heap.size) (c := c.cells) (by simp); have l2 := HK.out.cell (b := w.heap.size + 1) (c := i.cells) (by simp); have z2 : w.heap.size + 1 + 1 < w1.heap.size := (HK.out.2 (w.heap.size + 2, ({ K := 0, D := 0, V := 0 } : Ac).cells) (by simp)).2.2; have z1 : w.heap.size + 1 < w1.heap.size := Nat.lt_of_succ_lt z2; have z0 : w.heap.size < w1.heap.size := Nat.lt_of_succ_lt z1)
    exact ret_cell1 rfl rfl (loadAc_row (rowAc_put _ _ _ q5)) rfl ⟨rfl, below_put HK.out.1 _ (by omega) _⟩
  · by_cases hF : i.F = 2
    · have R := right_bd hr
      obtain ⟨⟨a0, a1⟩, ⟨b0, b1⟩, _, _⟩ := R
      have ga := Cp.atR c i.A.toNat (by omega)
      have gb := Cp.atR c i.B.toNat (by omega)
      have xa := hc.R i.A.toNat (by omega)
      have xb := hc.R i.B.toNat (by omega)
      have HA : Hid (accA c i = { K := accK i.U i.V, D := (c.R i.B.toNat + i.N) % 4294967296, V := accV i.U i.V (c.R i.A.toNat) }) := by
        show _ = _
        simp [accA, hr, hF]
      cases hU : i.U <;> cases hV : i.V
      all_goals
        go_enter Tryd.func15, Tryd.ntmps15
        go_wp2_with (go_at_call 23; refine (rright_any i _).mono ?_; rw [hr]; rintro e w1 ⟨rfl, hb⟩; have HK : Hid (Keeps w [(w.heap.size + 2, ({ K := 0, D := 0, V := 0 } : Ac).cells), (w.heap.size + 1, i.cells), (w.heap.size, c.cells)] w1) := K0.out.call hb; have q5 : roomAt w1 (w.heap.size + 1 + 1) 3 = true := HK.out.room (b := w.heap.size + 2) (c := ({ K := 0, D := 0, V := 0 } : Ac).cells) (by simp); have l1 := HK.out.cell (b := w.heap.size) (c := c.cells) (by simp); have l2 := HK.out.cell (b := w.heap.size + 1) (c := i.cells) (by simp); have z2 : w.heap.size + 1 + 1 < w1.heap.size := (HK.out.2 (w.heap.size + 2, ({ K := 0, D := 0, V := 0 } : Ac).cells) (by simp)).2.2; have z1 : w.heap.size + 1 < w1.heap.size := Nat.lt_of_succ_lt z2; have z0 : w.heap.size < w1.heap.size := Nat.lt_of_succ_lt z1)
        go_region_held3 (fun X => Keeps w [(w.heap.size + 2, ({ K := 0, D := 0, V := 0 } : Ac).cells), (w.heap.size + 1, i.cells), (w.heap.size, c.cells)] X ∧ rowAt X w.heap.size = some c.cells ∧ rowAt X (w.heap.size + 1) = some i.cells ∧ (∀ j, X.cell? ⟨w.heap.size, j, none⟩ = c.cells[j]?) ∧ (∀ j, X.cell? ⟨w.heap.size + 1, j, none⟩ = i.cells[j]?)) (first | exact Keeps.three (Keeps.drew HK.out) | exact Keeps.three (Keeps.drew (Keeps.alloc HK.out _))) (fail)
        rename_i hh
        clear hh
        go_wp2
        refine ret_cell1 rfl rfl (loadAc_row (show rowAt _ _ = some _ from (rowAt_past _ _ _ (by rw [size_put]; exact z2)).trans (rowAc_put _ _ _ q5))) rfl ⟨?_, ((below_put HK.out.1 _ (by omega) _).alloc (by rw [size_put]; exact HK.out.1.size) _).drew⟩
        rw [HA.out, hU, hV]
        simp [accK, accV]
    · have ha : accA c i = { K := 0, D := 0, V := 0 } := by simp [accA, hF]
      rw [ha]
      have hne : (i.F != 2) = true := by simpa [bne] using hF
      clear ha hF
      go_enter Tryd.func15, Tryd.ntmps15
      go_wp2_with (go_at_call 23; refine (rright_any i _).mono ?_; rw [hr]; rintro e w1 ⟨rfl, hb⟩; have HK : Hid (Keeps w [(w.heap.size + 2, ({ K := 0, D := 0, V := 0 } : Ac).cells), (w.heap.size + 1, i.cells), (w.heap.size, c.cells)] w1) := K0.out.call hb; have q5 : roomAt w1 (w.heap.size + 1 + 1) 3 = true := HK.out.room (b := w.heap.size + 2) (c := ({ K := 0, D := 0, V := 0 } : Ac).cells) (by simp); have l1 := HK.out.cell (b := w.heap.size) (c := c.cells) (by simp); have l2 := HK.out.cell (b := w.heap.size + 1) (c := i.cells) (by simp); have z2 : w.heap.size + 1 + 1 < w1.heap.size := (HK.out.2 (w.heap.size + 2, ({ K := 0, D := 0, V := 0 } : Ac).cells) (by simp)).2.2; have z1 : w.heap.size + 1 < w1.heap.size := Nat.lt_of_succ_lt z2; have z0 : w.heap.size < w1.heap.size := Nat.lt_of_succ_lt z1)
      exact ret_cell1 rfl rfl (loadAc_row (rowAc_put _ _ _ q5)) rfl ⟨rfl, below_put HK.out.1 _ (by omega) _⟩
def neqAc (x y : Value) : Sem Value := binOp .neq 40 x y
theorem neqAc_seal (x y : Value) : binOp .neq 40 x y = neqAc x y := rfl
theorem neqAc_same (a : Ac) (w : World) : (neqAc (.agg a.cells) (.agg a.cells)).run Tryd.prog w = .ok (.bool false) w := by
  unfold neqAc
  simp [go_sem, Tryd.underlying40]
end Go.Proofs.YtpiiidelmcnhnaaDoor
