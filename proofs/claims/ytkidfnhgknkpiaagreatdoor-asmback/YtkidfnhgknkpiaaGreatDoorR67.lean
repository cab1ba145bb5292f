/-
  The document's layer 6: Show: the operations.
  The document's layer 6: Show whole: the plain text of every word at every address.
-/
import Derived.Test.YtkidfnhgknkpiaaGreatDoorR4
import Derived.Test.YtkidfnhgknkpiaaGreatDoorR5
namespace Go.Proofs.YtkidfnhgknkpiaaGreatDoor
set_option linter.unusedVariables false
set_option linter.unusedSimpArgs false
open Go.ChangeShapes Go.WideShapes Go.ChangeAt Go.RowKit
attribute [local go_sem ↓] loadIn_seal storeIn_seal
attribute [local go_sem] loadIn_run storeIn_run rowAt_at rowAt_old rowAt_drew rowAt_drewN roomCpu_new roomIn_new roomAt_old roomAt_drew roomAt_drewN putCpu_new putIn_new Cp.zero_fold In.fold putRow_past rowCpu_put rowIn_put size_put putRow_drew putRow_drewN alloc_drewN setCell_drewN Cp.at16 Cp.at17 Cp.at18 Cp.at19 Cp.at20 Cp.at21 Cp.size Cp.set16 Cp.set17 Cp.set18 Cp.set19 Cp.set20 Cp.set21 In.at0 In.at1 In.at2 In.at3 In.at4 In.at5 In.at6 In.at7 In.size In.set0 In.set1 In.set2 In.set3 In.ne Cp.ne In.set4 In.set5 In.set6 In.set7

theorem held_call3 {w X Y : World} {b : Nat} {c : Array Value} (h : rowAt X b = some c ∧ (∀ j, X.cell? ⟨b, j, none⟩ = c[j]?) ∧ Below w.heap.size w X) (hb : Below X.heap.size X Y) : rowAt Y b = some c ∧ (∀ j, Y.cell? ⟨b, j, none⟩ = c[j]?) ∧ Below w.heap.size w Y := by
  have := (rowAt_below hb b (row_lt h.1)).trans h.1
  exact ⟨this, rowAt_cell this, h.2.2.trans (hb.mono h.2.2.size)⟩
theorem cell_carry {X Y : World} {g o : Nat} {v : Value} (h : X.cell? ⟨g, o, none⟩ = some v) (hb : Below X.heap.size X Y) : Y.cell? ⟨g, o, none⟩ = some v :=
  (hb.cell (p := ⟨g, o, none⟩) (World.block_lt_of_cell? X _ h)).trans h
theorem held_call4 {w X Y : World} {b : Nat} {c : Array Value} {g o : Nat} {v : Value} (h : rowAt X b = some c ∧ (∀ j, X.cell? ⟨b, j, none⟩ = c[j]?) ∧ Below w.heap.size w X ∧ X.cell? ⟨g, o, none⟩ = some v) (hb : Below X.heap.size X Y) :
    rowAt Y b = some c ∧ (∀ j, Y.cell? ⟨b, j, none⟩ = c[j]?) ∧ Below w.heap.size w Y ∧ Y.cell? ⟨g, o, none⟩ = some v := by
  obtain ⟨h1, h2, h3⟩ := held_call3 ⟨h.1, h.2.1, h.2.2.1⟩ hb
  exact ⟨h1, h2, h3, cell_carry h.2.2.2 hb⟩
/-- A region's walk under a condition is one under a weaker condition. -/
theorem wpAnyH_mono {P : Program} {md : Region.Mode} {ops : Array Oper} {Q : Exit → Act → World → Prop} {S S' : World → Prop} (hs : ∀ w, S' w → S w) : ∀ (fuel : Nat) (listed : Array Bool) (a : Act) (w : World), wpAnyH P md ops Q S' fuel listed a w → wpAnyH P md ops Q S fuel listed a w
  | 0, _, _, _, h => h
  | fuel + 1, _, _, _, h => ⟨h.1, fun k hk => wpOp_mono (fun a' w' h' => ⟨hs w' h'.1, wpAnyH_mono hs fuel _ a' w' h'.2⟩) (h.2 k hk)⟩
section
variable (x a : Int) (i : In) (w : World) (hW : Wr i) (hD : Calls Tryz.prog 23 #[.int .u32 x] w fun e w' => e = .returned (.tuple #[.agg i.cells, .bool true]) ∧ Below w.heap.size w w')
include hW hD
set_option maxRecDepth 20000 in
set_option maxHeartbeats 20000000 in
theorem rshow_op (h : i.F = 0 ∨ i.F = 1) (hO : i.O ≠ 0) (hT : i.O ≠ 15) (ob : 0 ≤ i.O ∧ i.O < 16) : Calls Tryz.prog 10 #[.int .u32 x, .int .u32 a] w fun e w' => e = .returned (.string (bs (showI i a))) ∧ Below w.heap.size w w' := by
  have hm := showI_op i a h hO hT
  have HM : Hid (showI i a = _) := hm
  clear hm
  have g1 : (i.F == 3) = false := by rcases h with h | h <;> simp [h]
  have g2 : (i.F == 2) = false := by rcases h with h | h <;> simp [h]
  have g3 : (i.O == 15) = false := by simpa using hT
  have g4 : (i.O == 0) = false := by simpa using hO
  have RM := rmarks_any i
  have RL := rlast_any i hW
  have RC := rnames_any
  have z4 := marks_size i
  have z5 := last_size' i hW
  obtain ⟨⟨a0, a1⟩, ⟨b0, b1⟩, ⟨c0, c1⟩, n0, n1⟩ := hW
  have RA := fun X => rreg_any i.A (by omega) (by omega) X
  have RB := fun X => rreg_any i.B (by omega) (by omega) X
  have z1 := reg_size' i.A (by omega) (by omega)
  have z2 := reg_size' i.B (by omega) (by omega)
  have z3 := op_size i.O
  have od : decide (i.O < 0) = false := by simpa using ob.1
  have oe : decide (16 ≤ i.O) = false := by simpa using ob.2
  have hz : i.O.toNat < 16 := by omega
  have hza : ((i.O.toNat : Nat) : Int) = i.O := Int.toNat_of_nonneg ob.1
  have HRM : Hid (∀ X, Calls Tryz.prog 30 #[.agg i.cells] X _) := RM
  have HRL : Hid (∀ X, Calls Tryz.prog 31 #[.agg i.cells] X _) := RL
  have HRA : Hid (∀ X, Calls Tryz.prog 26 #[.int .i64 i.A] X _) := RA
  have HRB : Hid (∀ X, Calls Tryz.prog 26 #[.int .i64 i.B] X _) := RB
  have HRC : Hid (∀ X, Calls Tryz.prog 29 #[] X _) := RC
  clear h hO hT RM RL RA RB RC
  have e32 : (⟨#[32]⟩ : ByteArray).size = 1 := rfl
  have e44 : (⟨#[44, 32]⟩ : ByteArray).size = 2 := rfl
  go_enter Tryz.func10, Tryz.ntmps10
  go_wp2_with (go_at_call 23; refine hD.mono ?_; rintro e w1 ⟨rfl, hb⟩; have hs := hb.size)
  have HB0 : Below w.heap.size w (w1.alloc (.cells i.cells 42)).drew := (hb.alloc hs _).drew
  clear g1 g2 g3 g4 hD hs hb a0 a1 b0 b1 c0 c1 n0 n1
  refine wp_region_held_drew (S := (fun w' => rowAt w' w1.heap.size = some i.cells ∧ (∀ j, w'.cell? ⟨w1.heap.size, j, none⟩ = i.cells[j]?) ∧ Below w.heap.size w w')) (by kernel_rfl) (by first | (simp [*, rowAt_at, rowAt_drew]; done) | skip) (fun hHeld => ?_)
  refine wpAnyH_take (i := 1) (v := ?_) rfl (by kernel_rfl) (by kernel_rfl) (by kernel_rfl) (fun _ _ _ h => h) (Or.inl ⟨by rfl, ?y1⟩) hHeld ?r1
  case y1 => (intro w2 hSw; (try dsimp only at hSw); go_simp; try with_reducible rfl)
  simp only [Act.put, List.setIfInBounds_toArray, List.set_cons_zero, List.set_cons_succ]
  refine wpAnyH_take (i := 2) (v := ?_) rfl (by kernel_rfl) (by kernel_rfl) (by kernel_rfl) (fun _ _ _ h => h) (Or.inl ⟨by rfl, ?y2⟩) hHeld ?r2
  case y2 => (intro w2 hSw; (try dsimp only at hSw); go_simp; try with_reducible rfl)
  simp only [Act.put, List.setIfInBounds_toArray, List.set_cons_zero, List.set_cons_succ]
  refine wpAnyH_take (i := 5) (v := ?_) rfl (by kernel_rfl) (by kernel_rfl) (by kernel_rfl) (fun _ _ _ h => h) (Or.inl ⟨by rfl, ?y5⟩) hHeld ?r5
  case y5 => (intro w2 hSw; (try dsimp only at hSw); go_simp; try with_reducible rfl)
  simp only [Act.put, List.setIfInBounds_toArray, List.set_cons_zero, List.set_cons_succ]
  refine wpAnyH_take (i := 9) (v := ?_) rfl (by kernel_rfl) (by kernel_rfl) (by kernel_rfl) (fun _ _ _ h => h) (Or.inl ⟨by rfl, ?y9⟩) hHeld ?r9
  case y9 => (intro w2 hSw; (try dsimp only at hSw); go_simp; try with_reducible rfl)
  simp only [Act.put, List.setIfInBounds_toArray, List.set_cons_zero, List.set_cons_succ]
  refine wpAnyH_take (i := 10) (v := ?_) rfl (by kernel_rfl) (by kernel_rfl) (by kernel_rfl) (fun _ _ _ h => h) (Or.inl ⟨by rfl, ?y10⟩) hHeld ?r10
  case y10 => (intro w2 hSw; (try dsimp only at hSw); go_simp; try with_reducible rfl)
  simp only [Act.put, List.setIfInBounds_toArray, List.set_cons_zero, List.set_cons_succ]
  refine wpAnyH_take (i := 14) (v := ?_) rfl (by kernel_rfl) (by kernel_rfl) (by kernel_rfl) (fun _ _ _ h => h) (Or.inl ⟨by rfl, ?y14⟩) hHeld ?r14
  case y14 => (intro w2 hSw; (try dsimp only at hSw); go_simp; try with_reducible rfl)
  simp only [Act.put, List.setIfInBounds_toArray, List.set_cons_zero, List.set_cons_succ]
  refine wpAnyH_take (i := 15) (v := ?_) rfl (by kernel_rfl) (by kernel_rfl) (by kernel_rfl) (fun _ _ _ h => h) (Or.inl ⟨by rfl, ?y15⟩) hHeld ?r15
  case y15 => (intro w2 hSw; (try dsimp only at hSw); go_simp; try with_reducible rfl)
  simp only [Act.put, List.setIfInBounds_toArray, List.set_cons_zero, List.set_cons_succ]
  refine wpAnyH_take (i := 19) (v := ?_) rfl (by kernel_rfl) (by kernel_rfl) (by kernel_rfl) (fun _ _ _ h => h) (Or.inl ⟨by rfl, ?y19⟩) hHeld ?r19
  case y19 => (intro w2 hSw; (try dsimp only at hSw); go_simp; try with_reducible rfl)
  simp only [Act.put, List.setIfInBounds_toArray, List.set_cons_zero, List.set_cons_succ]
  refine wpAnyH_ready (rs := [0]) (by kernel_rfl) (by simp) ?_
  refine AllReadyH.cons rfl (fun K hK => ?_) AllReadyH.nil
  go_simp
  go_wp2_with (go_at_call 29; refine (HRC.out _).mono ?_; rintro e wn ⟨g, rfl, hg1, hg2, hcc, hbn⟩; have k1 : wn.cell? ⟨g, i.O.toNat, none⟩ = some (.string (bs (opName i.O))) := (by have := hcc i.O.toNat hz; rwa [hza] at this); clear hcc hg1 hg2)
  refine hK.out _ _ (held_call3 hHeld hbn) (fun hHeld2 => ?_)
  clear hK K hHeld
  have hHeld := hHeld2
  clear hHeld2
  refine wpAnyH_mono (S' := (fun w' => rowAt w' w1.heap.size = some i.cells ∧ (∀ j, w'.cell? ⟨w1.heap.size, j, none⟩ = i.cells[j]?) ∧ Below w.heap.size w w' ∧ w'.cell? ⟨g, i.O.toNat, none⟩ = some (.string (bs (opName i.O))))) (fun w2 h => ⟨h.1, h.2.1, h.2.2.1⟩) _ _ _ _ ?_
  have hHeld3 : (fun w' => rowAt w' w1.heap.size = some i.cells ∧ (∀ j, w'.cell? ⟨w1.heap.size, j, none⟩ = i.cells[j]?) ∧ Below w.heap.size w w' ∧ w'.cell? ⟨g, i.O.toNat, none⟩ = some (.string (bs (opName i.O)))) wn := ⟨hHeld.1, hHeld.2.1, hHeld.2.2, k1⟩
  clear hHeld hbn k1
  have hHeld := hHeld3
  clear hHeld3
  refine wpAnyH_take (i := 3) (v := ?_) rfl (by kernel_rfl) (by kernel_rfl) (by kernel_rfl) (fun _ _ _ h => h) (Or.inl ⟨by rfl, ?y3⟩) hHeld ?r3
  case y3 => (intro w2 hSw; (try dsimp only at hSw); go_simp; try with_reducible rfl)
  simp only [Act.put, List.setIfInBounds_toArray, List.set_cons_zero, List.set_cons_succ]
  refine wpAnyH_take (i := 4) (v := ?_) rfl (by kernel_rfl) (by kernel_rfl) (by kernel_rfl) (fun _ _ _ h => h) (Or.inl ⟨by rfl, ?y4⟩) hHeld ?r4
  case y4 => (intro w2 hSw; (try dsimp only at hSw); go_simp; try with_reducible rfl)
  simp only [Act.put, List.setIfInBounds_toArray, List.set_cons_zero, List.set_cons_succ]
  refine wpAnyH_ready (rs := [6]) (by kernel_rfl) (by simp) ?_
  refine AllReadyH.cons rfl (fun K hK => ?_) AllReadyH.nil
  go_simp
  go_wp2_with (go_at_call 30; refine (HRM.out _).mono ?_; rintro e wm ⟨rfl, hbm⟩)
  refine hK.out _ _ (held_call4 hHeld hbm) (fun hHeld2 => ?_)
  clear hK K hHeld
  have hHeld := hHeld2
  clear hHeld2
  refine wpAnyH_take (i := 7) (v := ?_) rfl (by kernel_rfl) (by kernel_rfl) (by kernel_rfl) (fun _ _ _ h => h) (Or.inl ⟨by rfl, ?y7⟩) hHeld ?r7
  case y7 => (intro w2 hSw; (try dsimp only at hSw); clear hSw; go_simp; rw [if_neg (by first | omega | (simp only [ByteArray.size_append, e32, e44]; omega) | (simp; omega))])
  simp only [Act.put, List.setIfInBounds_toArray, List.set_cons_zero, List.set_cons_succ]
  refine wpAnyH_take (i := 8) (v := ?_) rfl (by kernel_rfl) (by kernel_rfl) (by kernel_rfl) (fun _ _ _ h => h) (Or.inl ⟨by rfl, ?y8⟩) hHeld ?r8
  case y8 => (intro w2 hSw; (try dsimp only at hSw); clear hSw; go_simp; rw [if_neg (by first | omega | (simp only [ByteArray.size_append, e32, e44]; omega) | (simp; omega))])
  simp only [Act.put, List.setIfInBounds_toArray, List.set_cons_zero, List.set_cons_succ]
  refine wpAnyH_ready (rs := [11]) (by kernel_rfl) (by simp) ?_
  refine AllReadyH.cons rfl (fun K hK => ?_) AllReadyH.nil
  go_simp
  go_wp2_with (go_at_call 26; refine (HRA.out _).mono ?_; rintro e w' ⟨rfl, hw⟩; obtain rfl := hw.symm; clear hw)
  refine hK.out _ _ (hHeld) (fun hHeld2 => ?_)
  clear hK K hHeld
  have hHeld := hHeld2
  clear hHeld2
  refine wpAnyH_take (i := 12) (v := ?_) rfl (by kernel_rfl) (by kernel_rfl) (by kernel_rfl) (fun _ _ _ h => h) (Or.inl ⟨by rfl, ?y12⟩) hHeld ?r12
  case y12 => (intro w2 hSw; (try dsimp only at hSw); clear hSw; go_simp; rw [if_neg (by first | omega | (simp only [ByteArray.size_append, e32, e44]; omega) | (simp; omega))])
  simp only [Act.put, List.setIfInBounds_toArray, List.set_cons_zero, List.set_cons_succ]
  refine wpAnyH_take (i := 13) (v := ?_) rfl (by kernel_rfl) (by kernel_rfl) (by kernel_rfl) (fun _ _ _ h => h) (Or.inl ⟨by rfl, ?y13⟩) hHeld ?r13
  case y13 => (intro w2 hSw; (try dsimp only at hSw); clear hSw; go_simp; rw [if_neg (by first | omega | (simp only [ByteArray.size_append, e32, e44]; omega) | (simp; omega))])
  simp only [Act.put, List.setIfInBounds_toArray, List.set_cons_zero, List.set_cons_succ]
  refine wpAnyH_ready (rs := [16]) (by kernel_rfl) (by simp) ?_
  refine AllReadyH.cons rfl (fun K hK => ?_) AllReadyH.nil
  go_simp
  go_wp2_with (go_at_call 26; refine (HRB.out _).mono ?_; rintro e w' ⟨rfl, hw⟩; obtain rfl := hw.symm; clear hw)
  refine hK.out _ _ (hHeld) (fun hHeld2 => ?_)
  clear hK K hHeld
  have hHeld := hHeld2
  clear hHeld2
  refine wpAnyH_take (i := 17) (v := ?_) rfl (by kernel_rfl) (by kernel_rfl) (by kernel_rfl) (fun _ _ _ h => h) (Or.inl ⟨by rfl, ?y17⟩) hHeld ?r17
  case y17 => (intro w2 hSw; (try dsimp only at hSw); clear hSw; go_simp; rw [if_neg (by first | omega | (simp only [ByteArray.size_append, e32, e44]; omega) | (simp; omega))])
  simp only [Act.put, List.setIfInBounds_toArray, List.set_cons_zero, List.set_cons_succ]
  refine wpAnyH_take (i := 18) (v := ?_) rfl (by kernel_rfl) (by kernel_rfl) (by kernel_rfl) (fun _ _ _ h => h) (Or.inl ⟨by rfl, ?y18⟩) hHeld ?r18
  case y18 => (intro w2 hSw; (try dsimp only at hSw); clear hSw; go_simp; rw [if_neg (by first | omega | (simp only [ByteArray.size_append, e32, e44]; omega) | (simp; omega))])
  simp only [Act.put, List.setIfInBounds_toArray, List.set_cons_zero, List.set_cons_succ]
  refine wpAnyH_ready (rs := [20]) (by kernel_rfl) (by simp) ?_
  refine AllReadyH.cons rfl (fun K hK => ?_) AllReadyH.nil
  go_simp
  go_wp2_with (go_at_call 31; refine (HRL.out _).mono ?_; rintro e wl ⟨rfl, hbl⟩)
  refine hK.out _ _ (held_call4 hHeld hbl) (fun hHeld2 => ?_)
  clear hK K hHeld
  have hHeld := hHeld2
  clear hHeld2
  refine wpAnyH_take (i := 21) (v := ?_) rfl (by kernel_rfl) (by kernel_rfl) (by kernel_rfl) (fun _ _ _ h => h) (Or.inl ⟨by rfl, ?y21⟩) hHeld ?r21
  case y21 => (intro w2 hSw; (try dsimp only at hSw); clear hSw; go_simp; rw [if_neg (by first | omega | (simp only [ByteArray.size_append, e32, e44]; omega) | (simp; omega))])
  simp only [Act.put, List.setIfInBounds_toArray, List.set_cons_zero, List.set_cons_succ]
  refine wpAnyH_ready (rs := [22]) (by kernel_rfl) (by simp) ?_
  refine AllReadyH.cons rfl (fun K hK => ?_) AllReadyH.nil
  go_simp
  refine hK.out _ _ hHeld (fun hHeld2 => ?_)
  clear hK K hHeld
  refine wpAnyH_done (by kernel_rfl) ?_ _
  have hz9 : Below w.heap.size w wl := hHeld2.2.2.1
  clear hHeld2
  go_wp2
  go_ret
  exact ⟨ret_str (by rw [HM.out]; simp only [← bs_app]; rfl), hz9⟩
end
end Go.Proofs.YtkidfnhgknkpiaaGreatDoor
namespace Go.Proofs.YtkidfnhgknkpiaaGreatDoor
set_option linter.unusedVariables false
set_option linter.unusedSimpArgs false
open Go.ChangeShapes Go.WideShapes Go.ChangeAt Go.RowKit

theorem rop_trap {i : In} (h : ropB i = true) (hF : i.F = 0 ∨ i.F = 1) (hO : i.O = 15) : i.U = false ∧ i.V = false := by
  unfold ropB at h
  simp only [Bool.and_eq_true] at h
  have h2 := h.1.2
  rw [hO] at h2
  clear h
  generalize i.U = U at h2
  generalize i.V = V at h2
  rcases hF with hF | hF <;> rw [hF] at h2 <;> cases U <;> cases V <;> revert h2 <;> decide
theorem right_rop7 {i : In} (h : rightB i = true) (hF : i.F = 0 ∨ i.F = 1) : ropB i = true := by
  unfold rightB at h
  simp only [Bool.and_eq_true] at h
  obtain ⟨_, _, _, h⟩ := h
  rcases hF with hF | hF
  · rw [if_pos hF] at h; simp only [Bool.and_eq_true] at h; exact h.2
  · rw [if_neg (by omega), if_pos hF] at h; simp only [Bool.and_eq_true] at h; exact h.2.2.2
theorem rshow_any (x a : Int) (w : World) (x0 : 0 ≤ x) (x1 : x ≤ 4294967295) :
    Calls Tryz.prog 10 #[.int .u32 x, .int .u32 a] w fun e w' => e = .returned (.string (bs (showP x a))) ∧ Below w.heap.size w w' := by
  cases hok : decOk x with
  | false => exact rshow_no x a w x0 x1 hok
  | true =>
    have hD := rdecode_any x w x0 x1
    rw [hok] at hD
    have hr : rightB (decI x) = true := by
      have h := hok
      simp only [decOk, Bool.and_eq_true] at h
      simp [decI, hok, h.1]
    have hW := wr_of hr
    have hs : showP x a = showI (decI x) a := by simp [showP, hok, showI]
    rw [hs]
    generalize decI x = i at hD hr hW
    have hb := (right_bd hr).F
    have hF : (i.F = 0 ∨ i.F = 1) ∧ 0 ≤ i.O ∧ i.O < 16 ∨ i.F = 2 ∨ i.F = 3 := by omega
    rcases hF with ⟨hF, ob⟩ | hF | hF
    · by_cases hT : i.O = 15
      · obtain ⟨hU, hV⟩ := rop_trap (right_rop7 hr hF) hF hT
        exact rshow_trap x a i w hW hD hF hT hU hV
      · by_cases hO : i.O = 0
        · exact rshow_mov x a i w hW hD hF hO
        · exact rshow_op x a i w hW hD hF hO hT ob
    · exact rshow_mem x a i w hW hD hF
    · exact rshow_br x a i w hW hD hF
end Go.Proofs.YtkidfnhgknkpiaaGreatDoor
