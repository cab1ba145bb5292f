/-
  The document's layer 6: moves, branches and Show: the plain text of every word at every address.
-/
import Derived.Test.YtkidfnhgknkpiaaGreatDoorR1
import Derived.Test.YtkidfnhgknkpiaaGreatDoorDecR
namespace Go.Proofs.YtkidfnhgknkpiaaGreatDoor
set_option linter.unusedVariables false
set_option linter.unusedSimpArgs false
open Go.ChangeShapes Go.WideShapes Go.ChangeAt Go.RowKit
attribute [local go_sem ↓] loadIn_seal storeIn_seal
attribute [local go_sem] loadIn_run storeIn_run rowAt_at rowAt_old rowAt_drew rowAt_drewN roomCpu_new roomIn_new roomAt_old roomAt_drew roomAt_drewN putCpu_new putIn_new Cp.zero_fold In.fold putRow_past rowCpu_put rowIn_put size_put putRow_drew putRow_drewN alloc_drewN setCell_drewN Cp.at16 Cp.at17 Cp.at18 Cp.at19 Cp.at20 Cp.at21 Cp.size Cp.set16 Cp.set17 Cp.set18 Cp.set19 Cp.set20 Cp.set21 In.at0 In.at1 In.at2 In.at3 In.at4 In.at5 In.at6 In.at7 In.size In.set0 In.set1 In.set2 In.set3 In.ne Cp.ne In.set4 In.set5 In.set6 In.set7

def movesP (i : In) : Bs := if takesP i then (if i.V then [77, 79, 86, 70, 32] else [77, 79, 86, 72, 32]) ++ regP i.A else [77, 79, 86] ++ marksP i ++ [32] ++ regP i.A ++ [44, 32] ++ lastOp i
theorem reg_size' (n : Int) (h0 : -1000000000000000000 < n) (h1 : n < 1000000000000000000) : (bs (regP n)).size ≤ 22 := by
  have := Lib.itoa_length_le n (by omega) (by omega)
  rw [bs_size, regP]; simp; omega
theorem marks_size (i : In) : (bs (marksP i)).size ≤ 2 := by
  have h1 := let_size i.U 85
  have h2 := let_size i.V 86
  rw [bs_size] at h1 h2 ⊢; unfold marksP; simp; omega
theorem last_size' (i : In) (hi : Wr i) : (bs (lastOp i)).size ≤ 22 := by
  have c := hi.C
  have n := hi.N
  unfold lastOp; split
  · exact reg_size' _ (by omega) (by omega)
  · exact Nat.le_trans (itoa_size _ (by omega) (by omega)) (by omega)
theorem row_lt {w : World} {b : Nat} {X : Array Value} (h : rowAt w b = some X) : b < w.heap.size := by
  unfold rowAt at h
  split at h
  · rename_i hb; exact (Array.getElem?_eq_some_iff.1 hb).1
  · cases h
theorem held_call {X Y : World} {b : Nat} {c : Array Value} (h : rowAt X b = some c ∧ ∀ j, X.cell? ⟨b, j, none⟩ = c[j]?) (hb : Below X.heap.size X Y) : rowAt Y b = some c ∧ ∀ j, Y.cell? ⟨b, j, none⟩ = c[j]? := by
  have := (rowAt_below hb b (row_lt h.1)).trans h.1
  exact ⟨this, rowAt_cell this⟩
set_option maxRecDepth 20000 in
set_option maxHeartbeats 4000000 in
theorem rmoves_any (i : In) (hi : Wr i) (hO : i.O = 0) (w : World) : Calls Tryz.prog 28 #[.agg i.cells] w fun e w' => e = .returned (.string (bs (movesP i))) ∧ Below w.heap.size w w' := by
  have a := hi.A
  have R1 := fun X => rreg_any i.A (by omega) (by omega) X
  have RM := rmarks_any i
  have RL := rlast_any i hi
  have z1 := reg_size' i.A (by omega) (by omega)
  have z2 := marks_size i
  have z3 := last_size' i hi
  cases ht : takesP i
  · have hm : movesP i = [77, 79, 86] ++ marksP i ++ [32] ++ regP i.A ++ [44, 32] ++ lastOp i := by simp [movesP, ht]
    have hg : (i.F == 0) = true → i.U = false := fun hf => by
      simp only [takesP, hO, decide_true, Bool.true_and] at ht
      cases hu : i.U
      · rfl
      · rw [hu] at ht; simp at ht hf; exact absurd hf ht
    have HM : Hid (movesP i = _) := hm
    clear hm ht
    by_cases hF : i.F = 0
    · have g1 : (i.F == 0) = true := by simpa using hF
      have g2 := hg g1
      clear hg
      go_enter Tryz.func28, Tryz.ntmps28
      go_wp2
      go_region_held (fun w' => rowAt w' w.heap.size = some i.cells ∧ (∀ j, w'.cell? ⟨w.heap.size, j, none⟩ = i.cells[j]?)) (first | (simp [*, rowAt_at, rowAt_drew]; done) | exact held_call (by assumption) (by assumption)) (first | (go_at_call 30; refine (RM _).mono ?_; rintro e w1 ⟨rfl, hb1⟩) | (go_at_call 26; refine (R1 _).mono ?_; rintro e w' ⟨rfl, hw⟩; obtain rfl := hw.symm; clear hw) | (go_at_call 31; refine (RL _).mono ?_; rintro e w2 ⟨rfl, hb2⟩))
      all_goals
        have q1 := hb1.size
        simp at q1
        go_wp2
        go_ret
        exact ⟨ret_str (by rw [HM.out, ← bs_app, ← bs_app, ← bs_app, ← bs_app, ← bs_app]; rfl), (((Below.refl _ _).alloc (Nat.le_refl _) _).drew.trans (hb1.mono (by simp))).trans (hb2.mono (by omega))⟩
    · have g1 : (i.F == 0) = false := by simpa using hF
      clear hg
      go_enter Tryz.func28, Tryz.ntmps28
      go_wp2
      go_region_held (fun w' => rowAt w' w.heap.size = some i.cells ∧ (∀ j, w'.cell? ⟨w.heap.size, j, none⟩ = i.cells[j]?)) (first | (simp [*, rowAt_at, rowAt_drew]; done) | exact held_call (by assumption) (by assumption)) (first | (go_at_call 30; refine (RM _).mono ?_; rintro e w1 ⟨rfl, hb1⟩) | (go_at_call 26; refine (R1 _).mono ?_; rintro e w' ⟨rfl, hw⟩; obtain rfl := hw.symm; clear hw) | (go_at_call 31; refine (RL _).mono ?_; rintro e w2 ⟨rfl, hb2⟩))
      all_goals
        have q1 := hb1.size
        simp at q1
        go_wp2
        go_ret
        exact ⟨ret_str (by rw [HM.out, ← bs_app, ← bs_app, ← bs_app, ← bs_app, ← bs_app]; rfl), (((Below.refl _ _).alloc (Nat.le_refl _) _).drew.trans (hb1.mono (by simp))).trans (hb2.mono (by omega))⟩
  · have hf : i.F = 0 ∧ i.U = true := by simpa [takesP, hO] using ht
    have g1 : (i.F == 0) = true := by simpa using hf.1
    have g2 := hf.2
    have hm : movesP i = (if i.V then [77, 79, 86, 70, 32] else [77, 79, 86, 72, 32]) ++ regP i.A := by simp [movesP, ht]
    have HM : Hid (movesP i = _) := hm
    clear hm ht hf RM RL z2 z3
    cases hV : i.V
    all_goals
      go_enter Tryz.func28, Tryz.ntmps28
      go_wp2_with (go_at_call 26; refine (R1 _).mono ?_; rintro e w' ⟨rfl, hw⟩; rw [hw]; clear hw)
      go_ret
      exact ⟨ret_str (by rw [HM.out, hV, ← bs_app]; rfl), (Below.refl _ _).alloc (Nat.le_refl _) _⟩
def branchP (i : In) (a : Int) : Bs := (if i.V then [67, 65, 76, 76, 32] else [74, 77, 80, 32]) ++ condName i.A ++ [44, 32] ++ (if i.U then Lib.itoa (toP a i.N) else regP i.C)
end Go.Proofs.YtkidfnhgknkpiaaGreatDoor
