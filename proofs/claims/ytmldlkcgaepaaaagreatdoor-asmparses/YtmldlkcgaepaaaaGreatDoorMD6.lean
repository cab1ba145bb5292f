/-
  The document's layer 6: branches.
-/
import Derived.Test.YtmldlkcgaepaaaaGreatDoorMD5
import Derived.Test.YtmldlkcgaepaaaaGreatDoorMHel
namespace Go.Proofs.YtmldlkcgaepaaaaGreatDoor
set_option linter.unusedVariables false
set_option linter.unusedSimpArgs false
open Go.ChangeShapes Go.WideShapes Go.ChangeAt Go.RowKit
attribute [local go_sem ↓] loadIn_seal storeIn_seal
attribute [local go_sem] loadIn_run storeIn_run rowAt_at rowAt_old rowAt_drew rowAt_drewN roomCpu_new roomIn_new roomAt_old roomAt_drew roomAt_drewN putCpu_new putIn_new Cp.zero_fold In.fold putRow_past rowCpu_put rowIn_put size_put putRow_drew putRow_drewN alloc_drewN setCell_drewN Cp.at16 Cp.at17 Cp.at18 Cp.at19 Cp.at20 Cp.at21 Cp.size Cp.set16 Cp.set17 Cp.set18 Cp.set19 Cp.set20 Cp.set21 In.at0 In.at1 In.at2 In.at3 In.at4 In.at5 In.at6 In.at7 In.size In.set0 In.set1 In.set2 In.set3 In.ne Cp.ne In.set4 In.set5 In.set6 In.set7
theorem In.set1' (c : In) (v : Bool) : c.cells.setIfInBounds 1 (.bool v) = ({ c with U := v } : In).cells := rfl
theorem In.set3' (c : In) (v : Int) : c.cells.setIfInBounds 3 (.int .i64 v) = ({ c with A := v } : In).cells := rfl
theorem In.set6' (c : In) (v : Int) : c.cells.setIfInBounds 6 (.int .i64 v) = ({ c with C := v } : In).cells := rfl
theorem In.set7' (c : In) (v : Int) : c.cells.setIfInBounds 7 (.int .i64 v) = ({ c with N := v } : In).cells := rfl
/-- An instruction that lies in a block of the call's own, beside the room for the answer. -/
structure IAt (w X : World) (p q : Nat) (i : In) : Prop where
  row : rowAt X q = some i.cells
  room : roomAt X q 8 = true
  ans : roomAt X p 8 = true
  ne : p ≠ q
  lo : w.heap.size ≤ p ∧ w.heap.size ≤ q
  bel : Below w.heap.size w X
theorem IAt.call {w X Y : World} {p q : Nat} {i : In} (h : IAt w X p q i) (hp : p < X.heap.size) (hb : Below X.heap.size X Y) : IAt w Y p q i :=
  ⟨(rowAt_below hb _ (row_lt h.row)).trans h.row, (roomAt_below hb _ _ (row_lt h.row)).trans h.room, (roomAt_below hb _ _ hp).trans h.ans, h.ne, h.lo, h.bel.trans (hb.mono h.bel.size)⟩
theorem IAt.set {w X : World} {p q : Nat} {i i' : In} (h : IAt w X p q i) (j : Nat) (v : Value) (hj : j < 8) (hi : i.cells.setIfInBounds j v = i'.cells) : IAt w (X.setCell ⟨q, j, none⟩ v) p q i' :=
  ⟨(row_set h.row h.room j v hj).1.trans (by rw [hi]), (row_set h.row h.room j v hj).2, ((far_set (w := X) (b := q) (b' := p) j v h.ne).2 8).trans h.ans, h.ne, h.lo, h.bel.setCell (by show w.heap.size ≤ q; exact h.lo.2) _⟩
theorem room_lt {w : World} {b n : Nat} (h : roomAt w b n = true) : b < w.heap.size := by
  unfold roomAt at h
  split at h
  · rename_i hb; exact (Array.getElem?_eq_some_iff.1 hb).1
  · cases h
theorem sext32_w (x : Int) : wrap32 (x % 4294967296) = sext (x % 4294967296) 32 := by
  unfold wrap32 sext sx
  simp
  omega
theorem way_w (n a : Int) : wrap64 (wrap32 ((n - a - 4) % 4294967296)) = wayOf n a := by
  have h := sext32_w (n - a - 4)
  have h2 := way_bd n a
  rw [h]
  unfold wayOf at h2 ⊢
  rw [show n - (a + 4) = n - a - 4 by omega] at h2 ⊢
  unfold wrap64
  omega
theorem way_w2 (n a : Int) : wrap64 ((wayOf n a).tdiv 4) = (wayOf n a).tdiv 4 := way_wrap n a
theorem branchD_two (name c t : Bs) (a : Int) (V : Bool) (hn : name = jmpT ∨ name = callT) (hV : decide (name = callT) = V) : branchD name [c, t] a = if cfind c 16 0 < 0 then none else match rgD t with
      | some r => some { mkI 3 0 false V with A := cfind c 16 0, C := r }
      | none => (wayD t a).map fun n => { mkI 3 0 true V with A := cfind c 16 0, N := n } := by
  subst hV
  simp only [branchD, if_pos hn]
  by_cases h : cfind c 16 0 < 0
  · rw [if_pos h, if_pos h]
  · rw [if_neg h, if_neg h]
    cases rgD t <;> rfl
set_option maxHeartbeats 4000000 in
set_option maxRecDepth 20000 in
theorem rbranch_jmp (c t : Bs) (b off : Nat) (sc : Nat) (a : Int) (w : World) (hb : b < w.heap.size) (h0 : w.cell? ⟨b, off, none⟩ = some (.string (bs c))) (h1 : w.cell? ⟨b, off + 1, none⟩ = some (.string (bs t))) (ht : t.length ≤ 65536) :
    Calls Tryz.prog 29 #[.string (bs jmpT), .slice (some ⟨b, off, none⟩) 2 sc, .int .u32 a] w fun e w' => ∃ i : In, e = .returned (.tuple #[.agg i.cells, .bool (branchD jmpT [c, t] a).isSome]) ∧ (∀ j, branchD jmpT [c, t] a = some j → i = j) ∧ Below w.heap.size w w' := by
  have hj2 : ((bs jmpT).toList == [74, 77, 80]) = !false := by rw [Lib.toList_data, bs_data]; rfl
  have hc2 : ((bs jmpT).toList == [67, 65, 76, 76]) = false := by rw [Lib.toList_data, bs_data]; rfl
  simp only [Bool.not_false, Bool.not_true] at hj2
  have HRC : Hid (∀ X, Calls Tryz.prog 52 #[] X _) := rconds_any
  have RG : Hid (∀ X, Calls Tryz.prog 53 #[.string (bs t)] X _) := fun X => rregister_any t X (by omega)
  have NU : Hid (∀ X, Calls Tryz.prog 54 #[.string (bs t)] X _) := fun X => rnumber_any t X (by omega)
  obtain ⟨z, hz⟩ : ∃ z, z = cfind c 16 0 := ⟨_, rfl⟩
  have hbd : branchD jmpT [c, t] a = if z < 0 then none else match rgD t with
      | some r => some { mkI 3 0 false false with A := z, C := r }
      | none => (wayD t a).map fun n => { mkI 3 0 true false with A := z, N := n } := by
    rw [hz]; exact branchD_two jmpT c t a false (by decide) (by decide)
  have HV : Hid (branchD jmpT [c, t] a = _ ∧ z = cfind c 16 0) := ⟨hbd, hz⟩
  clear hbd hz
  go_enter Tryz.func29, Tryz.ntmps29
  go_wp2
  refine wp_region_held_drew (S := (fun w' => w'.cell? ⟨b, off, none⟩ = some (.string (bs c)))) (by kernel_rfl) (((by go_grown : Below w.heap.size w _).cell (p := ⟨b, off, none⟩) hb).trans h0) (fun hHeld => ?_)
  refine wpAnyH_take (i := 1) (v := ?_) rfl (by kernel_rfl) (by kernel_rfl) (by kernel_rfl) (fun _ _ _ h => h) (Or.inl ⟨by rfl, ?y1⟩) hHeld ?r1
  case y1 => (intro w2 hSw; (try dsimp only at hSw); go_simp; try with_reducible rfl)
  simp only [Act.put, List.setIfInBounds_toArray, List.set_cons_zero, List.set_cons_succ]
  refine wpAnyH_take (i := 2) (v := ?_) rfl (by kernel_rfl) (by kernel_rfl) (by kernel_rfl) (fun _ _ _ h => h) (Or.inl ⟨by rfl, ?y2⟩) hHeld ?r2
  case y2 => (intro w2 hSw; (try dsimp only at hSw); go_simp; try with_reducible rfl)
  simp only [Act.put, List.setIfInBounds_toArray, List.set_cons_zero, List.set_cons_succ]
  refine wpAnyH_take (i := 3) (v := ?_) rfl (by kernel_rfl) (by kernel_rfl) (by kernel_rfl) (fun _ _ _ h => h) (Or.inl ⟨by rfl, ?y3⟩) hHeld ?r3
  case y3 => (intro w2 hSw; (try dsimp only at hSw); go_simp; try with_reducible rfl)
  simp only [Act.put, List.setIfInBounds_toArray, List.set_cons_zero, List.set_cons_succ]
  refine wpAnyH_ready (rs := [0]) (by kernel_rfl) (by simp) ?_
  refine AllReadyH.cons rfl (fun K hK => ?_) AllReadyH.nil
  go_simp
  go_wp2_with (go_at_call 52; refine (HRC.out _).mono ?_; rintro e wn ⟨g, rfl, hg1, hg2, hcc, hbn⟩)
  have I1 : IAt w wn w.heap.size (w.heap.size + 1) _ := IAt.call ⟨by simp [go_sem]; rfl, by simp [go_sem], by simp [go_sem], by omega, by omega, by go_grown⟩ (by simp; omega) hbn
  have hHeld2 := cell_carry hHeld hbn
  refine hK.out _ _ hHeld2 (fun _ => ?_)
  clear hK K hHeld hbn hg1 hg2
  have FA := rfind_all c g wn hcc
  rw [← HV.out.2] at FA
  have HI : Hid (IAt w wn w.heap.size (w.heap.size + 1) _) := I1
  clear I1
  refine wpAnyH_ready (rs := [4]) (by kernel_rfl) (by simp) ?_
  refine AllReadyH.cons rfl (fun K hK => ?_) AllReadyH.nil
  go_simp
  go_wp2_with (go_at_call 51; refine FA.mono ?_; rintro e w' ⟨rfl, hw⟩; obtain rfl := hw.symm; clear hw)
  refine hK.out _ _ hHeld2 (fun _ => ?_)
  clear hK K
  refine wpAnyH_take (i := 5) (v := ?_) rfl (by kernel_rfl) (by kernel_rfl) (by kernel_rfl) (fun _ _ _ h => h) (Or.inl ⟨by rfl, ?y5⟩) hHeld2 ?r5
  case y5 => (intro w2 hSw; (try dsimp only at hSw); go_simp; try with_reducible rfl)
  simp only [Act.put, List.setIfInBounds_toArray, List.set_cons_zero, List.set_cons_succ]
  refine wpAnyH_ready (rs := [6]) (by kernel_rfl) (by simp) ?_
  refine AllReadyH.cons rfl (fun K hK => ?_) AllReadyH.nil
  have q2 := rowAt_cell HI.out.row
  have q3 := row_free HI.out.room
  go_simp
  have I2 := HI.out.set 3 (.int .i64 z) (by omega) (In.set3' _ z)
  have hX0 : (wn.setCell ⟨w.heap.size + 1, 3, none⟩ (.int .i64 z)).cell? ⟨b, off, none⟩ = some (.string (bs c)) := (I2.bel.cell (p := ⟨b, off, none⟩) hb).trans h0
  have hX1 : (wn.setCell ⟨w.heap.size + 1, 3, none⟩ (.int .i64 z)).cell? ⟨b, off + 1, none⟩ = some (.string (bs t)) := (I2.bel.cell (p := ⟨b, off + 1, none⟩) hb).trans h1
  refine hK.out _ _ hX0 (fun _ => ?_)
  clear hK K q2 q3 hHeld2 FA hcc HI hc2 hj2
  refine wpAnyH_done (by kernel_rfl) ?_ _
  generalize wn.setCell ⟨w.heap.size + 1, 3, none⟩ (.int .i64 z) = X at I2 hX1 ⊢
  have HI : Hid (IAt w X w.heap.size (w.heap.size + 1) { mkI 3 0 false false with A := z }) := I2
  have r0 : rowAt X (w.heap.size + 1) = some ({ mkI 3 0 false false with A := z } : In).cells := I2.row
  have r1 := rowAt_cell r0
  have r2 := row_free I2.room
  have r3 := I2.ans
  have r4 := I2.room
  clear I2 hX0
  by_cases hz : z < 0
  · have hd : decide (z < 0) = true := by simpa using hz
    have e : branchD jmpT [c, t] a = none := by rw [HV.out.1, if_pos hz]
    have HE : Hid (branchD jmpT [c, t] a = none) := e
    clear e
    go_wp2
    exact ret_cell_tmp rfl rfl (loadIn_row (rowIn_put _ _ _ (by assumption))) rfl ⟨_, by rw [HE.out]; rfl, (fun j h => by rw [HE.out] at h; cases h), below_put HI.out.bel _ (by omega) _⟩
  · have hd : decide (z < 0) = false := by simpa using hz
    cases hr : rgD t with
    | some r =>
      have e : branchD jmpT [c, t] a = some { mkI 3 0 false false with A := z, C := r } := by rw [HV.out.1, if_neg hz, hr]
      have HE : Hid (branchD jmpT [c, t] a = some _) := e
      rw [rgV_of hr, hr] at RG
      have I3 := HI.out.set 6 (.int .i64 r) (by omega) (In.set6' _ r)
      have s0 : rowAt (X.setCell ⟨w.heap.size + 1, 6, none⟩ (.int .i64 r)) (w.heap.size + 1) = some ({ mkI 3 0 false false with A := z, C := r } : In).cells := I3.row
      have s3 := I3.ans
      clear e
      go_wp2_with (go_at_call 53; refine (RG.out _).mono ?_; rintro e w' ⟨rfl, hw⟩; obtain rfl := hw.symm; clear hw)
      exact ret_cell_tmp rfl rfl (loadIn_row (rowIn_put _ _ _ (by assumption))) rfl ⟨_, by rw [HE.out]; rfl, (fun j h => by rw [HE.out] at h; injection h), below_put I3.bel _ (by omega) _⟩
    | none =>
      have e : branchD jmpT [c, t] a = (wayD t a).map fun n => { mkI 3 0 true false with A := z, N := n } := by rw [HV.out.1, if_neg hz, hr]
      have HE : Hid (branchD jmpT [c, t] a = _) := e
      clear e
      rw [hr] at RG
      generalize rgV t = rv at RG
      cases hn : numD t with
      | none =>
        have HE2 : Hid (branchD jmpT [c, t] a = none) := by show _ = none; rw [HE.out]; simp [wayD, hn]
        rw [hn] at NU
        clear HE
        go_wp2_with (first | (go_at_call 53; refine (RG.out _).mono ?_; rintro e w' ⟨rfl, hw⟩; obtain rfl := hw.symm; clear hw) | (go_at_call 54; refine (NU.out _).mono ?_; rintro e w' ⟨rfl, hw⟩; obtain rfl := hw.symm; clear hw))
        exact ret_cell_tmp rfl rfl (loadIn_row (rowIn_put _ _ _ (by assumption))) rfl ⟨_, by rw [HE2.out]; rfl, (fun j h => by rw [HE2.out] at h; cases h), below_put HI.out.bel _ (by omega) _⟩
      | some n =>
        rw [hn] at NU
        have nb := (numD_some hn).2
        by_cases hr2 : 0 ≤ n ∧ n < 4294967296
        · have HE2 : Hid (branchD jmpT [c, t] a = if (wayOf n a).tmod 4 = 0 then some { mkI 3 0 true false with A := z, N := (wayOf n a).tdiv 4 } else none) := by
            show _ = _
            rw [HE.out]
            simp only [wayD, hn, if_pos hr2]
            split <;> rfl
          have d1 : decide (n < 0) = false := by simp; omega
          have d2 : decide (4294967296 ≤ n) = false := by simp; omega
          have I4 := HI.out.set 1 (.bool true) (by omega) (In.set1' _ true)
          have u1 := rowAt_cell I4.row
          have u2 := row_free I4.room
          have I5 : ∀ v, IAt w ((X.setCell ⟨w.heap.size + 1, 1, none⟩ (.bool true)).setCell ⟨w.heap.size + 1, 7, none⟩ (.int .i64 v)) w.heap.size (w.heap.size + 1) { mkI 3 0 true false with A := z, N := v } := fun v => I4.set 7 (.int .i64 v) (by omega) (In.set7' _ v)
          have v1 : ∀ v, rowAt ((X.setCell ⟨w.heap.size + 1, 1, none⟩ (.bool true)).setCell ⟨w.heap.size + 1, 7, none⟩ (.int .i64 v)) (w.heap.size + 1) = some ({ mkI 3 0 true false with A := z, N := v } : In).cells := fun v => (I5 v).row
          have v2 : ∀ v, roomAt ((X.setCell ⟨w.heap.size + 1, 1, none⟩ (.bool true)).setCell ⟨w.heap.size + 1, 7, none⟩ (.int .i64 v)) w.heap.size 8 = true := fun v => (I5 v).ans
          have HI5 : Hid (∀ v, IAt w ((X.setCell ⟨w.heap.size + 1, 1, none⟩ (.bool true)).setCell ⟨w.heap.size + 1, 7, none⟩ (.int .i64 v)) w.heap.size (w.heap.size + 1) { mkI 3 0 true false with A := z, N := v }) := I5
          clear HE I4 I5
          go_wp2_with (first | (go_at_call 53; refine (RG.out _).mono ?_; rintro e w' ⟨rfl, hw⟩; obtain rfl := hw.symm; clear hw) | (go_at_call 54; refine (NU.out _).mono ?_; rintro e w' ⟨rfl, hw⟩; obtain rfl := hw.symm; clear hw))
          refine ret_cell_tmp rfl rfl (loadIn_row (rowIn_put _ _ _ (v2 _))) rfl ⟨{ mkI 3 0 true false with A := z, N := wrap64 ((wrap64 (wrap32 ((n - a - 4) % 4294967296))).tdiv 4) }, ?_, ?_, below_put (HI5.out _).bel _ (by omega) _⟩
          · show Ending.returned (.tuple #[.agg _, .bool ((wrap64 (wrap32 ((n - a - 4) % 4294967296))).tmod 4 == 0)]) = _
            rw [HE2.out, way_w]
            by_cases h4 : (wayOf n a).tmod 4 = 0
            · rw [if_pos h4]; simp [h4]
            · rw [if_neg h4]; simp [h4]
          · intro j hj
            rw [HE2.out] at hj
            split at hj
            · injection hj with hj
              rw [← hj, way_w, way_w2]
            · cases hj
        · have HE2 : Hid (branchD jmpT [c, t] a = none) := by show _ = none; rw [HE.out]; simp [wayD, hn, hr2]
          clear HE
          have hh : (decide (n < 0) = true) ∨ (decide (n < 0) = false ∧ decide (4294967296 ≤ n) = true) := by
            by_cases h : n < 0
            · left; simpa using h
            · right; exact ⟨by simpa using h, by simp; omega⟩
          rcases hh with d1 | ⟨d1, d2⟩
          all_goals
            go_wp2_with (first | (go_at_call 53; refine (RG.out _).mono ?_; rintro e w' ⟨rfl, hw⟩; obtain rfl := hw.symm; clear hw) | (go_at_call 54; refine (NU.out _).mono ?_; rintro e w' ⟨rfl, hw⟩; obtain rfl := hw.symm; clear hw))
            exact ret_cell_tmp rfl rfl (loadIn_row (rowIn_put _ _ _ (by assumption))) rfl ⟨_, by rw [HE2.out]; rfl, (fun j h => by rw [HE2.out] at h; cases h), below_put HI.out.bel _ (by omega) _⟩
set_option maxHeartbeats 4000000 in
set_option maxRecDepth 20000 in
theorem rbranch_call (c t : Bs) (b off : Nat) (sc : Nat) (a : Int) (w : World) (hb : b < w.heap.size) (h0 : w.cell? ⟨b, off, none⟩ = some (.string (bs c))) (h1 : w.cell? ⟨b, off + 1, none⟩ = some (.string (bs t))) (ht : t.length ≤ 65536) :
    Calls Tryz.prog 29 #[.string (bs callT), .slice (some ⟨b, off, none⟩) 2 sc, .int .u32 a] w fun e w' => ∃ i : In, e = .returned (.tuple #[.agg i.cells, .bool (branchD callT [c, t] a).isSome]) ∧ (∀ j, branchD callT [c, t] a = some j → i = j) ∧ Below w.heap.size w w' := by
  have hj2 : ((bs callT).toList == [74, 77, 80]) = !true := by rw [Lib.toList_data, bs_data]; rfl
  have hc2 : ((bs callT).toList == [67, 65, 76, 76]) = true := by rw [Lib.toList_data, bs_data]; rfl
  simp only [Bool.not_false, Bool.not_true] at hj2
  have HRC : Hid (∀ X, Calls Tryz.prog 52 #[] X _) := rconds_any
  have RG : Hid (∀ X, Calls Tryz.prog 53 #[.string (bs t)] X _) := fun X => rregister_any t X (by omega)
  have NU : Hid (∀ X, Calls Tryz.prog 54 #[.string (bs t)] X _) := fun X => rnumber_any t X (by omega)
  obtain ⟨z, hz⟩ : ∃ z, z = cfind c 16 0 := ⟨_, rfl⟩
  have hbd : branchD callT [c, t] a = if z < 0 then none else match rgD t with
      | some r => some { mkI 3 0 false true with A := z, C := r }
      | none => (wayD t a).map fun n => { mkI 3 0 true true with A := z, N := n } := by
    rw [hz]; exact branchD_two callT c t a true (by decide) (by decide)
  have HV : Hid (branchD callT [c, t] a = _ ∧ z = cfind c 16 0) := ⟨hbd, hz⟩
  clear hbd hz
  go_enter Tryz.func29, Tryz.ntmps29
  go_wp2
  refine wp_region_held_drew (S := (fun w' => w'.cell? ⟨b, off, none⟩ = some (.string (bs c)))) (by kernel_rfl) (((by go_grown : Below w.heap.size w _).cell (p := ⟨b, off, none⟩) hb).trans h0) (fun hHeld => ?_)
  refine wpAnyH_take (i := 1) (v := ?_) rfl (by kernel_rfl) (by kernel_rfl) (by kernel_rfl) (fun _ _ _ h => h) (Or.inl ⟨by rfl, ?y1⟩) hHeld ?r1
  case y1 => (intro w2 hSw; (try dsimp only at hSw); go_simp; try with_reducible rfl)
  simp only [Act.put, List.setIfInBounds_toArray, List.set_cons_zero, List.set_cons_succ]
  refine wpAnyH_take (i := 2) (v := ?_) rfl (by kernel_rfl) (by kernel_rfl) (by kernel_rfl) (fun _ _ _ h => h) (Or.inl ⟨by rfl, ?y2⟩) hHeld ?r2
  case y2 => (intro w2 hSw; (try dsimp only at hSw); go_simp; try with_reducible rfl)
  simp only [Act.put, List.setIfInBounds_toArray, List.set_cons_zero, List.set_cons_succ]
  refine wpAnyH_take (i := 3) (v := ?_) rfl (by kernel_rfl) (by kernel_rfl) (by kernel_rfl) (fun _ _ _ h => h) (Or.inl ⟨by rfl, ?y3⟩) hHeld ?r3
  case y3 => (intro w2 hSw; (try dsimp only at hSw); go_simp; try with_reducible rfl)
  simp only [Act.put, List.setIfInBounds_toArray, List.set_cons_zero, List.set_cons_succ]
  refine wpAnyH_ready (rs := [0]) (by kernel_rfl) (by simp) ?_
  refine AllReadyH.cons rfl (fun K hK => ?_) AllReadyH.nil
  go_simp
  go_wp2_with (go_at_call 52; refine (HRC.out _).mono ?_; rintro e wn ⟨g, rfl, hg1, hg2, hcc, hbn⟩)
  have I1 : IAt w wn w.heap.size (w.heap.size + 1) _ := IAt.call ⟨by simp [go_sem]; rfl, by simp [go_sem], by simp [go_sem], by omega, by omega, by go_grown⟩ (by simp; omega) hbn
  have hHeld2 := cell_carry hHeld hbn
  refine hK.out _ _ hHeld2 (fun _ => ?_)
  clear hK K hHeld hbn hg1 hg2
  have FA := rfind_all c g wn hcc
  rw [← HV.out.2] at FA
  have HI : Hid (IAt w wn w.heap.size (w.heap.size + 1) _) := I1
  clear I1
  refine wpAnyH_ready (rs := [4]) (by kernel_rfl) (by simp) ?_
  refine AllReadyH.cons rfl (fun K hK => ?_) AllReadyH.nil
  go_simp
  go_wp2_with (go_at_call 51; refine FA.mono ?_; rintro e w' ⟨rfl, hw⟩; obtain rfl := hw.symm; clear hw)
  refine hK.out _ _ hHeld2 (fun _ => ?_)
  clear hK K
  refine wpAnyH_take (i := 5) (v := ?_) rfl (by kernel_rfl) (by kernel_rfl) (by kernel_rfl) (fun _ _ _ h => h) (Or.inl ⟨by rfl, ?y5⟩) hHeld2 ?r5
  case y5 => (intro w2 hSw; (try dsimp only at hSw); go_simp; try with_reducible rfl)
  simp only [Act.put, List.setIfInBounds_toArray, List.set_cons_zero, List.set_cons_succ]
  refine wpAnyH_ready (rs := [6]) (by kernel_rfl) (by simp) ?_
  refine AllReadyH.cons rfl (fun K hK => ?_) AllReadyH.nil
  have q2 := rowAt_cell HI.out.row
  have q3 := row_free HI.out.room
  go_simp
  have I2 := HI.out.set 3 (.int .i64 z) (by omega) (In.set3' _ z)
  have hX0 : (wn.setCell ⟨w.heap.size + 1, 3, none⟩ (.int .i64 z)).cell? ⟨b, off, none⟩ = some (.string (bs c)) := (I2.bel.cell (p := ⟨b, off, none⟩) hb).trans h0
  have hX1 : (wn.setCell ⟨w.heap.size + 1, 3, none⟩ (.int .i64 z)).cell? ⟨b, off + 1, none⟩ = some (.string (bs t)) := (I2.bel.cell (p := ⟨b, off + 1, none⟩) hb).trans h1
  refine hK.out _ _ hX0 (fun _ => ?_)
  clear hK K q2 q3 hHeld2 FA hcc HI hc2 hj2
  refine wpAnyH_done (by kernel_rfl) ?_ _
  generalize wn.setCell ⟨w.heap.size + 1, 3, none⟩ (.int .i64 z) = X at I2 hX1 ⊢
  have HI : Hid (IAt w X w.heap.size (w.heap.size + 1) { mkI 3 0 false true with A := z }) := I2
  have r0 : rowAt X (w.heap.size + 1) = some ({ mkI 3 0 false true with A := z } : In).cells := I2.row
  have r1 := rowAt_cell r0
  have r2 := row_free I2.room
  have r3 := I2.ans
  have r4 := I2.room
  clear I2 hX0
  by_cases hz : z < 0
  · have hd : decide (z < 0) = true := by simpa using hz
    have e : branchD callT [c, t] a = none := by rw [HV.out.1, if_pos hz]
    have HE : Hid (branchD callT [c, t] a = none) := e
    clear e
    go_wp2
    exact ret_cell_tmp rfl rfl (loadIn_row (rowIn_put _ _ _ (by assumption))) rfl ⟨_, by rw [HE.out]; rfl, (fun j h => by rw [HE.out] at h; cases h), below_put HI.out.bel _ (by omega) _⟩
  · have hd : decide (z < 0) = false := by simpa using hz
    cases hr : rgD t with
    | some r =>
      have e : branchD callT [c, t] a = some { mkI 3 0 false true with A := z, C := r } := by rw [HV.out.1, if_neg hz, hr]
      have HE : Hid (branchD callT [c, t] a = some _) := e
      rw [rgV_of hr, hr] at RG
      have I3 := HI.out.set 6 (.int .i64 r) (by omega) (In.set6' _ r)
      have s0 : rowAt (X.setCell ⟨w.heap.size + 1, 6, none⟩ (.int .i64 r)) (w.heap.size + 1) = some ({ mkI 3 0 false true with A := z, C := r } : In).cells := I3.row
      have s3 := I3.ans
      clear e
      go_wp2_with (go_at_call 53; refine (RG.out _).mono ?_; rintro e w' ⟨rfl, hw⟩; obtain rfl := hw.symm; clear hw)
      exact ret_cell_tmp rfl rfl (loadIn_row (rowIn_put _ _ _ (by assumption))) rfl ⟨_, by rw [HE.out]; rfl, (fun j h => by rw [HE.out] at h; injection h), below_put I3.bel _ (by omega) _⟩
    | none =>
      have e : branchD callT [c, t] a = (wayD t a).map fun n => { mkI 3 0 true true with A := z, N := n } := by rw [HV.out.1, if_neg hz, hr]
      have HE : Hid (branchD callT [c, t] a = _) := e
      clear e
      rw [hr] at RG
      generalize rgV t = rv at RG
      cases hn : numD t with
      | none =>
        have HE2 : Hid (branchD callT [c, t] a = none) := by show _ = none; rw [HE.out]; simp [wayD, hn]
        rw [hn] at NU
        clear HE
        go_wp2_with (first | (go_at_call 53; refine (RG.out _).mono ?_; rintro e w' ⟨rfl, hw⟩; obtain rfl := hw.symm; clear hw) | (go_at_call 54; refine (NU.out _).mono ?_; rintro e w' ⟨rfl, hw⟩; obtain rfl := hw.symm; clear hw))
        exact ret_cell_tmp rfl rfl (loadIn_row (rowIn_put _ _ _ (by assumption))) rfl ⟨_, by rw [HE2.out]; rfl, (fun j h => by rw [HE2.out] at h; cases h), below_put HI.out.bel _ (by omega) _⟩
      | some n =>
        rw [hn] at NU
        have nb := (numD_some hn).2
        by_cases hr2 : 0 ≤ n ∧ n < 4294967296
        · have HE2 : Hid (branchD callT [c, t] a = if (wayOf n a).tmod 4 = 0 then some { mkI 3 0 true true with A := z, N := (wayOf n a).tdiv 4 } else none) := by
            show _ = _
            rw [HE.out]
            simp only [wayD, hn, if_pos hr2]
            split <;> rfl
          have d1 : decide (n < 0) = false := by simp; omega
          have d2 : decide (4294967296 ≤ n) = false := by simp; omega
          have I4 := HI.out.set 1 (.bool true) (by omega) (In.set1' _ true)
          have u1 := rowAt_cell I4.row
          have u2 := row_free I4.room
          have I5 : ∀ v, IAt w ((X.setCell ⟨w.heap.size + 1, 1, none⟩ (.bool true)).setCell ⟨w.heap.size + 1, 7, none⟩ (.int .i64 v)) w.heap.size (w.heap.size + 1) { mkI 3 0 true true with A := z, N := v } := fun v => I4.set 7 (.int .i64 v) (by omega) (In.set7' _ v)
          have v1 : ∀ v, rowAt ((X.setCell ⟨w.heap.size + 1, 1, none⟩ (.bool true)).setCell ⟨w.heap.size + 1, 7, none⟩ (.int .i64 v)) (w.heap.size + 1) = some ({ mkI 3 0 true true with A := z, N := v } : In).cells := fun v => (I5 v).row
          have v2 : ∀ v, roomAt ((X.setCell ⟨w.heap.size + 1, 1, none⟩ (.bool true)).setCell ⟨w.heap.size + 1, 7, none⟩ (.int .i64 v)) w.heap.size 8 = true := fun v => (I5 v).ans
          have HI5 : Hid (∀ v, IAt w ((X.setCell ⟨w.heap.size + 1, 1, none⟩ (.bool true)).setCell ⟨w.heap.size + 1, 7, none⟩ (.int .i64 v)) w.heap.size (w.heap.size + 1) { mkI 3 0 true true with A := z, N := v }) := I5
          clear HE I4 I5
          go_wp2_with (first | (go_at_call 53; refine (RG.out _).mono ?_; rintro e w' ⟨rfl, hw⟩; obtain rfl := hw.symm; clear hw) | (go_at_call 54; refine (NU.out _).mono ?_; rintro e w' ⟨rfl, hw⟩; obtain rfl := hw.symm; clear hw))
          refine ret_cell_tmp rfl rfl (loadIn_row (rowIn_put _ _ _ (v2 _))) rfl ⟨{ mkI 3 0 true true with A := z, N := wrap64 ((wrap64 (wrap32 ((n - a - 4) % 4294967296))).tdiv 4) }, ?_, ?_, below_put (HI5.out _).bel _ (by omega) _⟩
          · show Ending.returned (.tuple #[.agg _, .bool ((wrap64 (wrap32 ((n - a - 4) % 4294967296))).tmod 4 == 0)]) = _
            rw [HE2.out, way_w]
            by_cases h4 : (wayOf n a).tmod 4 = 0
            · rw [if_pos h4]; simp [h4]
            · rw [if_neg h4]; simp [h4]
          · intro j hj
            rw [HE2.out] at hj
            split at hj
            · injection hj with hj
              rw [← hj, way_w, way_w2]
            · cases hj
        · have HE2 : Hid (branchD callT [c, t] a = none) := by show _ = none; rw [HE.out]; simp [wayD, hn, hr2]
          clear HE
          have hh : (decide (n < 0) = true) ∨ (decide (n < 0) = false ∧ decide (4294967296 ≤ n) = true) := by
            by_cases h : n < 0
            · left; simpa using h
            · right; exact ⟨by simpa using h, by simp; omega⟩
          rcases hh with d1 | ⟨d1, d2⟩
          all_goals
            go_wp2_with (first | (go_at_call 53; refine (RG.out _).mono ?_; rintro e w' ⟨rfl, hw⟩; obtain rfl := hw.symm; clear hw) | (go_at_call 54; refine (NU.out _).mono ?_; rintro e w' ⟨rfl, hw⟩; obtain rfl := hw.symm; clear hw))
            exact ret_cell_tmp rfl rfl (loadIn_row (rowIn_put _ _ _ (by assumption))) rfl ⟨_, by rw [HE2.out]; rfl, (fun j h => by rw [HE2.out] at h; cases h), below_put HI.out.bel _ (by omega) _⟩
end Go.Proofs.YtmldlkcgaepaaaaGreatDoor
