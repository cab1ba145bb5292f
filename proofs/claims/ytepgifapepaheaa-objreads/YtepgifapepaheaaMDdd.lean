/-
  Layer 7, the document's side: descriptors, all.
-/
import Derived.Test.YtepgifapepaheaaMDds
namespace Go.Proofs.Ytepgifapepaheaa
set_option linter.unusedVariables false
set_option linter.unusedSimpArgs false
open Go.ChangeShapes Go.WideShapes Go.ChangeAt Go.RowKit

theorem rdescs_not {l : List (Int × Int × List Int)} {i : Nat} (hi : i < l.length) (h : rdescB l i (l.getD i (0, 0, [])) = false) : rdescsB l = false := by
  cases hh : rdescsB l
  · rfl
  · have := List.all_eq_true.1 hh i (List.mem_range.2 hi)
    rw [this] at h
    cases h
theorem elk0 {w : World} {α : Type} {enc : α → Array Value} {k : Nat} {s : Sl} {l : List α} (h : RdV w k s l.length (flat enc l)) (he : ∀ x, (enc x).size = k) (d : α) (i : Nat) (hi : i < l.length) : ∃ b off, s.a = some ⟨b, off, none⟩ ∧ ∀ X, Below w.heap.size w X → ∀ m, m < k → X.cell? ⟨b, off + (i * k + m), none⟩ = (enc (l.getD i d))[m]? := by
  rcases h.many he (fun j => l.getD j d) (fun j hj => getD_at l d j hj) with h0 | ⟨b, off, h1, _, _⟩
  · omega
  refine ⟨b, off, h1, fun X hX m hm => ?_⟩
  rcases (h.below hX).many he (fun j => l.getD j d) (fun j hj => getD_at l d j hj) with h0 | ⟨b2, off2, h2, _, h3⟩
  · omega
  rw [h1] at h2
  injection h2 with h2; injection h2 with h2 h4 _
  subst h2; subst h4
  exact h3 i hi m hm
theorem bool_or (b : Bool) : b = true ∨ b = false := by cases b <;> simp
theorem cell_lt0 {X : World} {b j : Nat} {u : Value} (h : X.cell? ⟨b, j, none⟩ = some u) : b < X.heap.size := by
  rcases Nat.lt_or_ge b X.heap.size with q | q
  · exact q
  · have : X.heap[b]? = none := Array.getElem?_eq_none q
    simp [World.cell?, this] at h
/-- What one descriptor must be, a fault for each. -/
theorem rdescB_no {l : List (Int × Int × List Int)} {i : Nat} {x : Int × Int × List Int} (h : x.1 < 8 ∨ 200 ≤ x.1 ∨ (0 < i ∧ x.1 ≤ (l.getD (i - 1) (0, 0, [])).1) ∨ x.2.1 < 0 ∨ 16384 < x.2.1 ∨ x.2.1 % 4 ≠ 0 ∨ (x.2.2.length : Int) < 1 ∨ 4 < (x.2.2.length : Int) ∨ (∃ k, k < x.2.2.length ∧ (l.map (·.1)).contains (x.2.2.getD k 0) = false) ∨ x.2.2.getD (x.2.2.length - 1) 0 ≠ x.1) : rdescB l i x = false := by
  cases hh : rdescB l i x
  · rfl
  · exfalso
    unfold rdescB at hh
    simp only [Bool.and_eq_true, Bool.or_eq_true, decide_eq_true_eq, beq_iff_eq, List.all_eq_true] at hh
    obtain ⟨h1, h2, h3, h4, h5, h6, h7, h8, h9, h10⟩ := hh
    rcases h with h | h | h | h | h | h | h | h | ⟨k, hk, h⟩ | h
    any_goals omega
    · rw [h9 k (List.mem_range.2 hk)] at h; cases h
theorem rdescB_yes {l : List (Int × Int × List Int)} {i : Nat} {x : Int × Int × List Int} (h1 : 8 ≤ x.1) (h2 : x.1 < 200) (h3 : i = 0 ∨ (l.getD (i - 1) (0, 0, [])).1 < x.1) (h4 : 0 ≤ x.2.1) (h5 : x.2.1 ≤ 16384) (h6 : x.2.1 % 4 = 0) (h7 : 0 < (x.2.2.length : Int)) (h8 : (x.2.2.length : Int) ≤ 4) (h9 : ∀ k, k < x.2.2.length → (l.map (·.1)).contains (x.2.2.getD k 0) = true) (h10 : x.2.2.getD (x.2.2.length - 1) 0 = x.1) : rdescB l i x = true := by
  unfold rdescB
  simp only [Bool.and_eq_true, Bool.or_eq_true, decide_eq_true_eq, beq_iff_eq, List.all_eq_true]
  exact ⟨h1, h2, h3, h4, h5, h6, h7, h8, fun k hk => h9 k (List.mem_range.1 hk), h10⟩
set_option maxHeartbeats 40000000 in
set_option maxRecDepth 20000 in
theorem rdescs_walk (w : World) (b off sn sc : Nat) (l : List (Int × Int × List Int)) (tg : Nat → Sl) (hm : (sn : Int) ≤ 140737488355328) (HN : Hid (sn = l.length)) (cb : Int → Bool) (HC : Hid (∀ t, cb t = (l.map (·.1)).contains t))
    (TW : Hid (∀ i, i < l.length → ∀ Y, Below w.heap.size w Y → Y.cell? ⟨b, off + i * 3, none⟩ = some (.int .i64 (l.getD i (0, 0, [])).1) ∧ Y.cell? ⟨b, off + i * 3 + 1, none⟩ = some (.int .i64 (l.getD i (0, 0, [])).2.1) ∧ Y.cell? ⟨b, off + i * 3 + 2, none⟩ = some (.slice (tg i).a (tg i).n (tg i).c)))
    (TN : Hid (∀ i, i < l.length → (tg i).n = (l.getD i (0, 0, [])).2.2.length))
    (TG : Hid (∀ i, i < l.length → 0 < (tg i).n → ∃ g o2, (tg i).a = some ⟨g, o2, none⟩ ∧ ∀ j, j < (tg i).n → ∀ Y, Below w.heap.size w Y → Y.cell? ⟨g, o2 + j, none⟩ = some (.int .i64 ((l.getD i (0, 0, [])).2.2.getD j 0))))
    (DE : Hid (∀ t X, Below w.heap.size w X → Calls Try.prog 94 #[.slice (some ⟨b, off, none⟩) sn sc, .int .i64 t] X fun e w' => e = .returned (.bool (cb t)) ∧ w' = X)) : Calls Try.prog 83 #[.slice (some ⟨b, off, none⟩) sn sc] w fun e w' => e = .returned (.bool (rdescsB l)) ∧ Below w.heap.size w w' := by
  go_enter Try.func83, Try.ntmps83
  go_wp2
  go_loopg [3] sn (fun gf s3 wx => ∃ i : Nat, s3 = .int .i64 (i : Int) ∧ i + gf = sn ∧ Hid (Below w.heap.size w wx) ∧ Hid (∀ j, j < i → rdescB l j (l.getD j (0, 0, [])) = true))
  case atStart => exact ⟨0, rfl, by omega, Below.refl _ _, fun j hj => by omega⟩
  case round =>
    obtain ⟨i, rfl, hi, HB, HP⟩ := hrel
    by_cases hlt : i < sn
    · obtain ⟨g', rfl⟩ : ∃ g', gk = g' + 1 := ⟨gk - 1, by omega⟩
      have d1 : decide ((i : Int) < (sn : Int)) = true := decide_eq_true (by omega)
      have j0 : (0 : Int) ≤ (i : Int) := by omega
      have j1 : (i : Int) < (sn : Int) := by omega
      have HI : Hid (i < l.length) := hid_of (by rw [← HN.out]; exact hlt)
      obtain ⟨k0, k1, k2⟩ := TW.out i HI.out wr HB.out
      have NO : Hid (∀ _h : rdescB l i (l.getD i (0, 0, [])) = false, rdescsB l = false) := hid_of fun h => rdescs_not HI.out h
      obtain ⟨x, hx⟩ : ∃ x, x = l.getD i (0, 0, []) := ⟨_, rfl⟩
      have HX : Hid (x = l.getD i (0, 0, [])) := hx
      have TN1 : Hid ((tg i).n = x.2.2.length) := hid_of (by rw [hx]; exact TN.out i HI.out)
      have TG1 : Hid (0 < (tg i).n → ∃ g o2, (tg i).a = some ⟨g, o2, none⟩ ∧ ∀ j, j < (tg i).n → ∀ Y, Below w.heap.size w Y → Y.cell? ⟨g, o2 + j, none⟩ = some (.int .i64 (x.2.2.getD j 0))) := hid_of (by rw [hx]; exact TG.out i HI.out)
      have PV : Hid (∀ k, i = k + 1 → wr.cell? ⟨b, off + k * 3, none⟩ = some (.int .i64 (l.getD (i - 1) (0, 0, [])).1)) := hid_of fun k hk => by
        subst hk; exact (TW.out k (Nat.lt_of_succ_lt HI.out) wr HB.out).1
      rw [← hx] at k0 k1 NO
      clear hx TN TG TW
      obtain ⟨y0, y1, tl⟩ := x
      generalize ht : tg i = t at k2 TN1 TG1
      obtain ⟨ta, tn, tc⟩ := t
      simp only at k0 k1 k2
      have TN1 : Hid (tn = tl.length) := TN1.out
      have TG1 : Hid (0 < tn → ∃ g o2, ta = some ⟨g, o2, none⟩ ∧ ∀ j, j < tn → ∀ Y, Below w.heap.size w Y → Y.cell? ⟨g, o2 + j, none⟩ = some (.int .i64 (tl.getD j 0))) := TG1.out
      clear ht
      have HW : Hid (Below w.heap.size w (wr.alloc (.cells #[.int .i64 y0, .int .i64 y1, .slice ta tn tc] 54)).drew) := hid_of ((HB.out.trans ((by go_grown : Below wr.heap.size wr (wr.alloc (.cells #[.int .i64 y0, .int .i64 y1, .slice ta tn tc] 54))).mono HB.out.size)).drew)
      by_cases q0 : y0 < 8
      · have f0 : decide (y0 < 8) = true := decide_eq_true q0
        have HF : Hid (rdescsB l = false) := hid_of (NO.out (rdescB_no (Or.inl q0)))
        clear NO PV DE TG1 TN1 HP HX HC
        go_wp2
        go_region
        all_goals
          go_wp2
          go_ret
          exact ⟨ret_bool HF.out.symm, HW.out⟩
      have f0 : decide (y0 < 8) = false := decide_eq_false q0
      by_cases q1 : (200 : Int) ≤ y0
      · have f1 : decide ((200 : Int) ≤ y0) = true := decide_eq_true q1
        have HF : Hid (rdescsB l = false) := hid_of (NO.out (rdescB_no (Or.inr (Or.inl q1))))
        clear NO PV DE TG1 TN1 HP HX HC
        go_wp2
        go_region
        all_goals
          go_wp2
          go_ret
          exact ⟨ret_bool HF.out.symm, HW.out⟩
      have f1 : decide ((200 : Int) ≤ y0) = false := decide_eq_false q1
      by_cases hz : i = 0
      · have z0 : decide ((0 : Int) < (i : Int)) = false := decide_eq_false (by omega)
        have z1 : ¬ 0 < i := by omega
        have z2 : decide (0 < i) = false := decide_eq_false z1
        have HZ : Hid (i = 0 ∨ (l.getD (i - 1) (0, 0, [])).1 < y0) := hid_of (Or.inl hz)
        clear hz PV
        have PV : True := trivial
        have hS : (fun X => X.cell? ⟨wr.heap.size, 0, none⟩ = some (.int .i64 y0) ∧ X.cell? ⟨wr.heap.size, 1, none⟩ = some (.int .i64 y1)) (wr.alloc (.cells #[.int .i64 y0, .int .i64 y1, .slice ta tn tc] 54)).drew := ⟨blk_cell (blk_newd _ _) 0, blk_cell (blk_newd _ _) 1⟩
        go_wp2
        refine wp_region_held_drew (S := (fun X => X.cell? ⟨wr.heap.size, 0, none⟩ = some (.int .i64 y0) ∧ X.cell? ⟨wr.heap.size, 1, none⟩ = some (.int .i64 y1))) (by kernel_rfl) hS (fun hHeld => ?_)
        refine wpAnyH_take (i := 0) (v := ?_) rfl (by kernel_rfl) (by kernel_rfl) (by kernel_rfl) (fun _ _ _ h => h) (Or.inl ⟨by kernel_rfl, ?y0a⟩) hHeld ?r0a
        case y0a => (intro wq hSw; go_simp; try rfl)
        simp only [Act.put, List.setIfInBounds_toArray, List.set_cons_zero, List.set_cons_succ]
        refine wpAnyH_take (i := 1) (v := ?_) rfl (by kernel_rfl) (by kernel_rfl) (by kernel_rfl) (fun _ _ _ h => h) (Or.inl ⟨by kernel_rfl, ?y1a⟩) hHeld ?r1a
        case y1a => (intro wq hSw; have q1 := hSw.1; go_simp; try rfl)
        simp only [Act.put, List.setIfInBounds_toArray, List.set_cons_zero, List.set_cons_succ]
        refine wpAnyH_take (i := 2) (v := ?_) rfl (by kernel_rfl) (by kernel_rfl) (by kernel_rfl) (fun _ _ _ h => h) (Or.inl ⟨by kernel_rfl, ?y2a⟩) hHeld ?r2a
        case y2a => (intro wq hSw; go_simp; try rfl)
        simp only [Act.put, List.setIfInBounds_toArray, List.set_cons_zero, List.set_cons_succ]
        refine wpAnyH_take (i := 3) (v := ?_) rfl (by kernel_rfl) (by kernel_rfl) (by kernel_rfl) (fun _ _ _ h => h) (Or.inl ⟨by kernel_rfl, ?y3a⟩) hHeld ?r3a
        case y3a => (intro wq hSw; go_simp; try rfl)
        simp only [Act.put, List.setIfInBounds_toArray, List.set_cons_zero, List.set_cons_succ]
        refine wpAnyH_take (i := 4) (v := ?_) rfl (by kernel_rfl) (by kernel_rfl) (by kernel_rfl) (fun _ _ _ h => h) (Or.inl ⟨by kernel_rfl, ?y4a⟩) hHeld ?r4a
        case y4a => (intro wq hSw; go_simp; try rfl)
        simp only [Act.put, List.setIfInBounds_toArray, List.set_cons_zero, List.set_cons_succ]
        refine wpAnyH_take (i := 5) (v := ?_) rfl (by kernel_rfl) (by kernel_rfl) (by kernel_rfl) (fun _ _ _ h => h) (Or.inl ⟨by kernel_rfl, ?y5a⟩) hHeld ?r5a
        case y5a => (intro wq hSw; have q1 := hSw.1; go_simp; try rfl)
        simp only [Act.put, List.setIfInBounds_toArray, List.set_cons_zero, List.set_cons_succ]
        refine wpAnyH_take (i := 6) (v := ?_) rfl (by kernel_rfl) (by kernel_rfl) (by kernel_rfl) (fun _ _ _ h => h) (Or.inl ⟨by kernel_rfl, ?y6a⟩) hHeld ?r6a
        case y6a => (intro wq hSw; go_simp; try rfl)
        simp only [Act.put, List.setIfInBounds_toArray, List.set_cons_zero, List.set_cons_succ]
        refine wpAnyH_take (i := 7) (v := ?_) rfl (by kernel_rfl) (by kernel_rfl) (by kernel_rfl) (fun _ _ _ h => h) (Or.inl ⟨by kernel_rfl, ?y7a⟩) hHeld ?r7a
        case y7a => (intro wq hSw; go_simp; try rfl)
        simp only [Act.put, List.setIfInBounds_toArray, List.set_cons_zero, List.set_cons_succ]
        refine wpAnyH_take (i := 8) (v := ?_) rfl (by kernel_rfl) (by kernel_rfl) (by kernel_rfl) (fun _ _ _ h => h) (Or.inl ⟨by kernel_rfl, ?y8a⟩) hHeld ?r8a
        case y8a => (intro wq hSw; go_simp; try rfl)
        simp only [Act.put, List.setIfInBounds_toArray, List.set_cons_zero, List.set_cons_succ]
        refine wpAnyH_take (i := 9) (v := ?_) rfl (by kernel_rfl) (by kernel_rfl) (by kernel_rfl) (fun _ _ _ h => h) (Or.inl ⟨by kernel_rfl, ?y9a⟩) hHeld ?r9a
        case y9a => (intro wq hSw; go_simp; try rfl)
        simp only [Act.put, List.setIfInBounds_toArray, List.set_cons_zero, List.set_cons_succ]
        refine wpAnyH_take (i := 10) (v := ?_) rfl (by kernel_rfl) (by kernel_rfl) (by kernel_rfl) (fun _ _ _ h => h) (Or.inl ⟨by kernel_rfl, ?y10a⟩) hHeld ?r10a
        case y10a => (intro wq hSw; go_simp; try rfl)
        simp only [Act.put, List.setIfInBounds_toArray, List.set_cons_zero, List.set_cons_succ]
        refine wpAnyH_take (i := 11) (v := ?_) rfl (by kernel_rfl) (by kernel_rfl) (by kernel_rfl) (fun _ _ _ h => h) (Or.inl ⟨by kernel_rfl, ?y11a⟩) hHeld ?r11a
        case y11a => (intro wq hSw; go_simp; try rfl)
        simp only [Act.put, List.setIfInBounds_toArray, List.set_cons_zero, List.set_cons_succ]
        refine wpAnyH_take (i := 12) (v := undef) rfl (by kernel_rfl) (by kernel_rfl) (by kernel_rfl) (fun _ _ _ h => h) (Or.inr ⟨by kernel_rfl, rfl⟩) hHeld ?r12a
        simp only [Act.put, List.setIfInBounds_toArray, List.set_cons_zero, List.set_cons_succ]
        refine wpAnyH_take (i := 13) (v := undef) rfl (by kernel_rfl) (by kernel_rfl) (by kernel_rfl) (fun _ _ _ h => h) (Or.inr ⟨by kernel_rfl, rfl⟩) hHeld ?r13a
        simp only [Act.put, List.setIfInBounds_toArray, List.set_cons_zero, List.set_cons_succ]
        refine wpAnyH_take (i := 14) (v := undef) rfl (by kernel_rfl) (by kernel_rfl) (by kernel_rfl) (fun _ _ _ h => h) (Or.inr ⟨by kernel_rfl, rfl⟩) hHeld ?r14a
        simp only [Act.put, List.setIfInBounds_toArray, List.set_cons_zero, List.set_cons_succ]
        refine wpAnyH_take (i := 15) (v := undef) rfl (by kernel_rfl) (by kernel_rfl) (by kernel_rfl) (fun _ _ _ h => h) (Or.inr ⟨by kernel_rfl, rfl⟩) hHeld ?r15a
        simp only [Act.put, List.setIfInBounds_toArray, List.set_cons_zero, List.set_cons_succ]
        refine wpAnyH_take (i := 16) (v := undef) rfl (by kernel_rfl) (by kernel_rfl) (by kernel_rfl) (fun _ _ _ h => h) (Or.inr ⟨by kernel_rfl, rfl⟩) hHeld ?r16a
        simp only [Act.put, List.setIfInBounds_toArray, List.set_cons_zero, List.set_cons_succ]
        refine wpAnyH_take (i := 17) (v := undef) rfl (by kernel_rfl) (by kernel_rfl) (by kernel_rfl) (fun _ _ _ h => h) (Or.inr ⟨by kernel_rfl, rfl⟩) hHeld ?r17a
        simp only [Act.put, List.setIfInBounds_toArray, List.set_cons_zero, List.set_cons_succ]
        refine wpAnyH_take (i := 18) (v := undef) rfl (by kernel_rfl) (by kernel_rfl) (by kernel_rfl) (fun _ _ _ h => h) (Or.inr ⟨by kernel_rfl, rfl⟩) hHeld ?r18a
        simp only [Act.put, List.setIfInBounds_toArray, List.set_cons_zero, List.set_cons_succ]
        refine wpAnyH_take (i := 19) (v := undef) rfl (by kernel_rfl) (by kernel_rfl) (by kernel_rfl) (fun _ _ _ h => h) (Or.inr ⟨by kernel_rfl, rfl⟩) hHeld ?r19a
        simp only [Act.put, List.setIfInBounds_toArray, List.set_cons_zero, List.set_cons_succ]
        refine wpAnyH_take (i := 20) (v := undef) rfl (by kernel_rfl) (by kernel_rfl) (by kernel_rfl) (fun _ _ _ h => h) (Or.inr ⟨by kernel_rfl, rfl⟩) hHeld ?r20a
        simp only [Act.put, List.setIfInBounds_toArray, List.set_cons_zero, List.set_cons_succ]
        refine wpAnyH_take (i := 21) (v := ?_) rfl (by kernel_rfl) (by kernel_rfl) (by kernel_rfl) (fun _ _ _ h => h) (Or.inl ⟨by kernel_rfl, ?y21a⟩) hHeld ?r21a
        case y21a => (intro wq hSw; go_simp; try rfl)
        simp only [Act.put, List.setIfInBounds_toArray, List.set_cons_zero, List.set_cons_succ]
        refine wpAnyH_take (i := 22) (v := ?_) rfl (by kernel_rfl) (by kernel_rfl) (by kernel_rfl) (fun _ _ _ h => h) (Or.inl ⟨by kernel_rfl, ?y22a⟩) hHeld ?r22a
        case y22a => (intro wq hSw; go_simp; try rfl)
        simp only [Act.put, List.setIfInBounds_toArray, List.set_cons_zero, List.set_cons_succ]
        refine wpAnyH_take (i := 23) (v := ?_) rfl (by kernel_rfl) (by kernel_rfl) (by kernel_rfl) (fun _ _ _ h => h) (Or.inl ⟨by kernel_rfl, ?y23a⟩) hHeld ?r23a
        case y23a => (intro wq hSw; go_simp; try rfl)
        simp only [Act.put, List.setIfInBounds_toArray, List.set_cons_zero, List.set_cons_succ]
        refine wpAnyH_take (i := 24) (v := ?_) rfl (by kernel_rfl) (by kernel_rfl) (by kernel_rfl) (fun _ _ _ h => h) (Or.inl ⟨by kernel_rfl, ?y24a⟩) hHeld ?r24a
        case y24a => (intro wq hSw; go_simp; try rfl)
        simp only [Act.put, List.setIfInBounds_toArray, List.set_cons_zero, List.set_cons_succ]
        refine wpAnyH_take (i := 25) (v := ?_) rfl (by kernel_rfl) (by kernel_rfl) (by kernel_rfl) (fun _ _ _ h => h) (Or.inl ⟨by kernel_rfl, ?y25a⟩) hHeld ?r25a
        case y25a => (intro wq hSw; have q1 := hSw.2; go_simp; try rfl)
        simp only [Act.put, List.setIfInBounds_toArray, List.set_cons_zero, List.set_cons_succ]
        by_cases q3 : y1 < 0
        · have f3 : decide (y1 < 0) = true := decide_eq_true q3
          have HF : Hid (rdescsB l = false) := hid_of (NO.out (rdescB_no (Or.inr (Or.inr (Or.inr (Or.inl q3))))))
          clear NO DE TG1 TN1 HP HX HC
          refine wpAnyH_take (i := 26) (v := ?_) rfl (by kernel_rfl) (by kernel_rfl) (by kernel_rfl) (fun _ _ _ h => h) (Or.inl ⟨by kernel_rfl, ?y26af3⟩) hHeld ?r26af3
          case y26af3 => (intro wq hSw; go_simp; try rfl)
          simp only [Act.put, List.setIfInBounds_toArray, List.set_cons_zero, List.set_cons_succ]
          refine wpAnyH_take (i := 27) (v := ?_) rfl (by kernel_rfl) (by kernel_rfl) (by kernel_rfl) (fun _ _ _ h => h) (Or.inl ⟨by kernel_rfl, ?y27af3⟩) hHeld ?r27af3
          case y27af3 => (intro wq hSw; go_simp; try rfl)
          simp only [Act.put, List.setIfInBounds_toArray, List.set_cons_zero, List.set_cons_succ]
          refine wpAnyH_take (i := 28) (v := ?_) rfl (by kernel_rfl) (by kernel_rfl) (by kernel_rfl) (fun _ _ _ h => h) (Or.inl ⟨by kernel_rfl, ?y28af3⟩) hHeld ?r28af3
          case y28af3 => (intro wq hSw; go_simp; try rfl)
          simp only [Act.put, List.setIfInBounds_toArray, List.set_cons_zero, List.set_cons_succ]
          refine wpAnyH_take (i := 29) (v := undef) rfl (by kernel_rfl) (by kernel_rfl) (by kernel_rfl) (fun _ _ _ h => h) (Or.inr ⟨by kernel_rfl, rfl⟩) hHeld ?r29af3
          simp only [Act.put, List.setIfInBounds_toArray, List.set_cons_zero, List.set_cons_succ]
          refine wpAnyH_take (i := 30) (v := undef) rfl (by kernel_rfl) (by kernel_rfl) (by kernel_rfl) (fun _ _ _ h => h) (Or.inr ⟨by kernel_rfl, rfl⟩) hHeld ?r30af3
          simp only [Act.put, List.setIfInBounds_toArray, List.set_cons_zero, List.set_cons_succ]
          refine wpAnyH_take (i := 31) (v := undef) rfl (by kernel_rfl) (by kernel_rfl) (by kernel_rfl) (fun _ _ _ h => h) (Or.inr ⟨by kernel_rfl, rfl⟩) hHeld ?r31af3
          simp only [Act.put, List.setIfInBounds_toArray, List.set_cons_zero, List.set_cons_succ]
          refine wpAnyH_take (i := 32) (v := ?_) rfl (by kernel_rfl) (by kernel_rfl) (by kernel_rfl) (fun _ _ _ h => h) (Or.inl ⟨by kernel_rfl, ?y32af3⟩) hHeld ?r32af3
          case y32af3 => (intro wq hSw; go_simp; try rfl)
          simp only [Act.put, List.setIfInBounds_toArray, List.set_cons_zero, List.set_cons_succ]
          refine wpAnyH_take (i := 33) (v := ?_) rfl (by kernel_rfl) (by kernel_rfl) (by kernel_rfl) (fun _ _ _ h => h) (Or.inl ⟨by kernel_rfl, ?y33af3⟩) hHeld ?r33af3
          case y33af3 => (intro wq hSw; go_simp; try rfl)
          simp only [Act.put, List.setIfInBounds_toArray, List.set_cons_zero, List.set_cons_succ]
          refine wpAnyH_take (i := 34) (v := undef) rfl (by kernel_rfl) (by kernel_rfl) (by kernel_rfl) (fun _ _ _ h => h) (Or.inr ⟨by kernel_rfl, rfl⟩) hHeld ?r34af3
          simp only [Act.put, List.setIfInBounds_toArray, List.set_cons_zero, List.set_cons_succ]
          refine wpAnyH_take (i := 35) (v := undef) rfl (by kernel_rfl) (by kernel_rfl) (by kernel_rfl) (fun _ _ _ h => h) (Or.inr ⟨by kernel_rfl, rfl⟩) hHeld ?r35af3
          simp only [Act.put, List.setIfInBounds_toArray, List.set_cons_zero, List.set_cons_succ]
          refine wpAnyH_take (i := 36) (v := undef) rfl (by kernel_rfl) (by kernel_rfl) (by kernel_rfl) (fun _ _ _ h => h) (Or.inr ⟨by kernel_rfl, rfl⟩) hHeld ?r36af3
          simp only [Act.put, List.setIfInBounds_toArray, List.set_cons_zero, List.set_cons_succ]
          refine wpAnyH_take (i := 37) (v := undef) rfl (by kernel_rfl) (by kernel_rfl) (by kernel_rfl) (fun _ _ _ h => h) (Or.inr ⟨by kernel_rfl, rfl⟩) hHeld ?r37af3
          simp only [Act.put, List.setIfInBounds_toArray, List.set_cons_zero, List.set_cons_succ]
          refine wpAnyH_take (i := 38) (v := ?_) rfl (by kernel_rfl) (by kernel_rfl) (by kernel_rfl) (fun _ _ _ h => h) (Or.inl ⟨by kernel_rfl, ?y38af3⟩) hHeld ?r38af3
          case y38af3 => (intro wq hSw; go_simp; try rfl)
          simp only [Act.put, List.setIfInBounds_toArray, List.set_cons_zero, List.set_cons_succ]
          refine wpAnyH_take (i := 39) (v := ?_) rfl (by kernel_rfl) (by kernel_rfl) (by kernel_rfl) (fun _ _ _ h => h) (Or.inl ⟨by kernel_rfl, ?y39af3⟩) hHeld ?r39af3
          case y39af3 => (intro wq hSw; go_simp; try rfl)
          simp only [Act.put, List.setIfInBounds_toArray, List.set_cons_zero, List.set_cons_succ]
          refine wpAnyH_take (i := 40) (v := undef) rfl (by kernel_rfl) (by kernel_rfl) (by kernel_rfl) (fun _ _ _ h => h) (Or.inr ⟨by kernel_rfl, rfl⟩) hHeld ?r40af3
          simp only [Act.put, List.setIfInBounds_toArray, List.set_cons_zero, List.set_cons_succ]
          refine wpAnyH_take (i := 41) (v := undef) rfl (by kernel_rfl) (by kernel_rfl) (by kernel_rfl) (fun _ _ _ h => h) (Or.inr ⟨by kernel_rfl, rfl⟩) hHeld ?r41af3
          simp only [Act.put, List.setIfInBounds_toArray, List.set_cons_zero, List.set_cons_succ]
          refine wpAnyH_take (i := 42) (v := ?_) rfl (by kernel_rfl) (by kernel_rfl) (by kernel_rfl) (fun _ _ _ h => h) (Or.inl ⟨by kernel_rfl, ?y42af3⟩) hHeld ?r42af3
          case y42af3 => (intro wq hSw; go_simp; try rfl)
          simp only [Act.put, List.setIfInBounds_toArray, List.set_cons_zero, List.set_cons_succ]
          refine wpAnyH_take (i := 43) (v := ?_) rfl (by kernel_rfl) (by kernel_rfl) (by kernel_rfl) (fun _ _ _ h => h) (Or.inl ⟨by kernel_rfl, ?y43af3⟩) hHeld ?r43af3
          case y43af3 => (intro wq hSw; go_simp; try rfl)
          simp only [Act.put, List.setIfInBounds_toArray, List.set_cons_zero, List.set_cons_succ]
          refine wpAnyH_take (i := 44) (v := undef) rfl (by kernel_rfl) (by kernel_rfl) (by kernel_rfl) (fun _ _ _ h => h) (Or.inr ⟨by kernel_rfl, rfl⟩) hHeld ?r44af3
          simp only [Act.put, List.setIfInBounds_toArray, List.set_cons_zero, List.set_cons_succ]
          refine wpAnyH_take (i := 45) (v := undef) rfl (by kernel_rfl) (by kernel_rfl) (by kernel_rfl) (fun _ _ _ h => h) (Or.inr ⟨by kernel_rfl, rfl⟩) hHeld ?r45af3
          simp only [Act.put, List.setIfInBounds_toArray, List.set_cons_zero, List.set_cons_succ]
          refine wpAnyH_ready (rs := [46]) (by kernel_rfl) (by simp) ?_
          refine AllReadyH.cons rfl (fun K hK => ?_) AllReadyH.nil
          go_simp
          refine hK.out _ _ hHeld (fun _ => ?_)
          clear hK K
          refine wpAnyH_done (by kernel_rfl) ?_ _
          go_wp2_with fail
          go_ret
          exact ⟨ret_bool HF.out.symm, HW.out⟩
        have f3 : decide (y1 < 0) = false := decide_eq_false q3
        have p3 : 0 ≤ y1 := by omega
        clear q3
        refine wpAnyH_take (i := 26) (v := ?_) rfl (by kernel_rfl) (by kernel_rfl) (by kernel_rfl) (fun _ _ _ h => h) (Or.inl ⟨by kernel_rfl, ?y26a⟩) hHeld ?r26a
        case y26a => (intro wq hSw; go_simp; try rfl)
        simp only [Act.put, List.setIfInBounds_toArray, List.set_cons_zero, List.set_cons_succ]
        refine wpAnyH_take (i := 27) (v := ?_) rfl (by kernel_rfl) (by kernel_rfl) (by kernel_rfl) (fun _ _ _ h => h) (Or.inl ⟨by kernel_rfl, ?y27a⟩) hHeld ?r27a
        case y27a => (intro wq hSw; go_simp; try rfl)
        simp only [Act.put, List.setIfInBounds_toArray, List.set_cons_zero, List.set_cons_succ]
        refine wpAnyH_take (i := 28) (v := ?_) rfl (by kernel_rfl) (by kernel_rfl) (by kernel_rfl) (fun _ _ _ h => h) (Or.inl ⟨by kernel_rfl, ?y28a⟩) hHeld ?r28a
        case y28a => (intro wq hSw; go_simp; try rfl)
        simp only [Act.put, List.setIfInBounds_toArray, List.set_cons_zero, List.set_cons_succ]
        refine wpAnyH_take (i := 29) (v := ?_) rfl (by kernel_rfl) (by kernel_rfl) (by kernel_rfl) (fun _ _ _ h => h) (Or.inl ⟨by kernel_rfl, ?y29a⟩) hHeld ?r29a
        case y29a => (intro wq hSw; go_simp; try rfl)
        simp only [Act.put, List.setIfInBounds_toArray, List.set_cons_zero, List.set_cons_succ]
        refine wpAnyH_take (i := 30) (v := ?_) rfl (by kernel_rfl) (by kernel_rfl) (by kernel_rfl) (fun _ _ _ h => h) (Or.inl ⟨by kernel_rfl, ?y30a⟩) hHeld ?r30a
        case y30a => (intro wq hSw; have q1 := hSw.2; go_simp; try rfl)
        simp only [Act.put, List.setIfInBounds_toArray, List.set_cons_zero, List.set_cons_succ]
        by_cases q4 : (16384 : Int) < y1
        · have f4 : decide ((16384 : Int) < y1) = true := decide_eq_true q4
          have HF : Hid (rdescsB l = false) := hid_of (NO.out (rdescB_no (Or.inr (Or.inr (Or.inr (Or.inr (Or.inl q4)))))))
          clear NO DE TG1 TN1 HP HX HC
          refine wpAnyH_take (i := 31) (v := ?_) rfl (by kernel_rfl) (by kernel_rfl) (by kernel_rfl) (fun _ _ _ h => h) (Or.inl ⟨by kernel_rfl, ?y31af4⟩) hHeld ?r31af4
          case y31af4 => (intro wq hSw; go_simp; try rfl)
          simp only [Act.put, List.setIfInBounds_toArray, List.set_cons_zero, List.set_cons_succ]
          refine wpAnyH_take (i := 32) (v := ?_) rfl (by kernel_rfl) (by kernel_rfl) (by kernel_rfl) (fun _ _ _ h => h) (Or.inl ⟨by kernel_rfl, ?y32af4⟩) hHeld ?r32af4
          case y32af4 => (intro wq hSw; go_simp; try rfl)
          simp only [Act.put, List.setIfInBounds_toArray, List.set_cons_zero, List.set_cons_succ]
          refine wpAnyH_take (i := 33) (v := ?_) rfl (by kernel_rfl) (by kernel_rfl) (by kernel_rfl) (fun _ _ _ h => h) (Or.inl ⟨by kernel_rfl, ?y33af4⟩) hHeld ?r33af4
          case y33af4 => (intro wq hSw; go_simp; try rfl)
          simp only [Act.put, List.setIfInBounds_toArray, List.set_cons_zero, List.set_cons_succ]
          refine wpAnyH_take (i := 34) (v := undef) rfl (by kernel_rfl) (by kernel_rfl) (by kernel_rfl) (fun _ _ _ h => h) (Or.inr ⟨by kernel_rfl, rfl⟩) hHeld ?r34af4
          simp only [Act.put, List.setIfInBounds_toArray, List.set_cons_zero, List.set_cons_succ]
          refine wpAnyH_take (i := 35) (v := undef) rfl (by kernel_rfl) (by kernel_rfl) (by kernel_rfl) (fun _ _ _ h => h) (Or.inr ⟨by kernel_rfl, rfl⟩) hHeld ?r35af4
          simp only [Act.put, List.setIfInBounds_toArray, List.set_cons_zero, List.set_cons_succ]
          refine wpAnyH_take (i := 36) (v := undef) rfl (by kernel_rfl) (by kernel_rfl) (by kernel_rfl) (fun _ _ _ h => h) (Or.inr ⟨by kernel_rfl, rfl⟩) hHeld ?r36af4
          simp only [Act.put, List.setIfInBounds_toArray, List.set_cons_zero, List.set_cons_succ]
          refine wpAnyH_take (i := 37) (v := undef) rfl (by kernel_rfl) (by kernel_rfl) (by kernel_rfl) (fun _ _ _ h => h) (Or.inr ⟨by kernel_rfl, rfl⟩) hHeld ?r37af4
          simp only [Act.put, List.setIfInBounds_toArray, List.set_cons_zero, List.set_cons_succ]
          refine wpAnyH_take (i := 38) (v := ?_) rfl (by kernel_rfl) (by kernel_rfl) (by kernel_rfl) (fun _ _ _ h => h) (Or.inl ⟨by kernel_rfl, ?y38af4⟩) hHeld ?r38af4
          case y38af4 => (intro wq hSw; go_simp; try rfl)
          simp only [Act.put, List.setIfInBounds_toArray, List.set_cons_zero, List.set_cons_succ]
          refine wpAnyH_take (i := 39) (v := ?_) rfl (by kernel_rfl) (by kernel_rfl) (by kernel_rfl) (fun _ _ _ h => h) (Or.inl ⟨by kernel_rfl, ?y39af4⟩) hHeld ?r39af4
          case y39af4 => (intro wq hSw; go_simp; try rfl)
          simp only [Act.put, List.setIfInBounds_toArray, List.set_cons_zero, List.set_cons_succ]
          refine wpAnyH_take (i := 40) (v := undef) rfl (by kernel_rfl) (by kernel_rfl) (by kernel_rfl) (fun _ _ _ h => h) (Or.inr ⟨by kernel_rfl, rfl⟩) hHeld ?r40af4
          simp only [Act.put, List.setIfInBounds_toArray, List.set_cons_zero, List.set_cons_succ]
          refine wpAnyH_take (i := 41) (v := undef) rfl (by kernel_rfl) (by kernel_rfl) (by kernel_rfl) (fun _ _ _ h => h) (Or.inr ⟨by kernel_rfl, rfl⟩) hHeld ?r41af4
          simp only [Act.put, List.setIfInBounds_toArray, List.set_cons_zero, List.set_cons_succ]
          refine wpAnyH_take (i := 42) (v := ?_) rfl (by kernel_rfl) (by kernel_rfl) (by kernel_rfl) (fun _ _ _ h => h) (Or.inl ⟨by kernel_rfl, ?y42af4⟩) hHeld ?r42af4
          case y42af4 => (intro wq hSw; go_simp; try rfl)
          simp only [Act.put, List.setIfInBounds_toArray, List.set_cons_zero, List.set_cons_succ]
          refine wpAnyH_take (i := 43) (v := ?_) rfl (by kernel_rfl) (by kernel_rfl) (by kernel_rfl) (fun _ _ _ h => h) (Or.inl ⟨by kernel_rfl, ?y43af4⟩) hHeld ?r43af4
          case y43af4 => (intro wq hSw; go_simp; try rfl)
          simp only [Act.put, List.setIfInBounds_toArray, List.set_cons_zero, List.set_cons_succ]
          refine wpAnyH_take (i := 44) (v := undef) rfl (by kernel_rfl) (by kernel_rfl) (by kernel_rfl) (fun _ _ _ h => h) (Or.inr ⟨by kernel_rfl, rfl⟩) hHeld ?r44af4
          simp only [Act.put, List.setIfInBounds_toArray, List.set_cons_zero, List.set_cons_succ]
          refine wpAnyH_take (i := 45) (v := undef) rfl (by kernel_rfl) (by kernel_rfl) (by kernel_rfl) (fun _ _ _ h => h) (Or.inr ⟨by kernel_rfl, rfl⟩) hHeld ?r45af4
          simp only [Act.put, List.setIfInBounds_toArray, List.set_cons_zero, List.set_cons_succ]
          refine wpAnyH_ready (rs := [46]) (by kernel_rfl) (by simp) ?_
          refine AllReadyH.cons rfl (fun K hK => ?_) AllReadyH.nil
          go_simp
          refine hK.out _ _ hHeld (fun _ => ?_)
          clear hK K
          refine wpAnyH_done (by kernel_rfl) ?_ _
          go_wp2_with fail
          go_ret
          exact ⟨ret_bool HF.out.symm, HW.out⟩
        have f4 : decide ((16384 : Int) < y1) = false := decide_eq_false q4
        have p4 : y1 ≤ 16384 := by omega
        clear q4
        refine wpAnyH_take (i := 31) (v := ?_) rfl (by kernel_rfl) (by kernel_rfl) (by kernel_rfl) (fun _ _ _ h => h) (Or.inl ⟨by kernel_rfl, ?y31a⟩) hHeld ?r31a
        case y31a => (intro wq hSw; go_simp; try rfl)
        simp only [Act.put, List.setIfInBounds_toArray, List.set_cons_zero, List.set_cons_succ]
        refine wpAnyH_take (i := 32) (v := ?_) rfl (by kernel_rfl) (by kernel_rfl) (by kernel_rfl) (fun _ _ _ h => h) (Or.inl ⟨by kernel_rfl, ?y32a⟩) hHeld ?r32a
        case y32a => (intro wq hSw; go_simp; try rfl)
        simp only [Act.put, List.setIfInBounds_toArray, List.set_cons_zero, List.set_cons_succ]
        refine wpAnyH_take (i := 33) (v := ?_) rfl (by kernel_rfl) (by kernel_rfl) (by kernel_rfl) (fun _ _ _ h => h) (Or.inl ⟨by kernel_rfl, ?y33a⟩) hHeld ?r33a
        case y33a => (intro wq hSw; go_simp; try rfl)
        simp only [Act.put, List.setIfInBounds_toArray, List.set_cons_zero, List.set_cons_succ]
        refine wpAnyH_take (i := 34) (v := ?_) rfl (by kernel_rfl) (by kernel_rfl) (by kernel_rfl) (fun _ _ _ h => h) (Or.inl ⟨by kernel_rfl, ?y34a⟩) hHeld ?r34a
        case y34a => (intro wq hSw; go_simp; try rfl)
        simp only [Act.put, List.setIfInBounds_toArray, List.set_cons_zero, List.set_cons_succ]
        refine wpAnyH_take (i := 35) (v := ?_) rfl (by kernel_rfl) (by kernel_rfl) (by kernel_rfl) (fun _ _ _ h => h) (Or.inl ⟨by kernel_rfl, ?y35a⟩) hHeld ?r35a
        case y35a => (intro wq hSw; have q1 := hSw.2; go_simp; try rfl)
        simp only [Act.put, List.setIfInBounds_toArray, List.set_cons_zero, List.set_cons_succ]
        have hmod : y1.tmod 4 = y1 % 4 := Int.tmod_eq_emod_of_nonneg (by omega)
        by_cases q5 : y1 % 4 ≠ 0
        · have f5 : (y1 % 4 != 0) = true := bne_iff_ne.2 q5
          have HF : Hid (rdescsB l = false) := hid_of (NO.out (rdescB_no (Or.inr (Or.inr (Or.inr (Or.inr (Or.inr (Or.inl q5))))))))
          clear NO DE TG1 TN1 HP HX HC
          refine wpAnyH_take (i := 36) (v := ?_) rfl (by kernel_rfl) (by kernel_rfl) (by kernel_rfl) (fun _ _ _ h => h) (Or.inl ⟨by kernel_rfl, ?y36af5⟩) hHeld ?r36af5
          case y36af5 => (intro wq hSw; go_simp; try rfl)
          simp only [Act.put, List.setIfInBounds_toArray, List.set_cons_zero, List.set_cons_succ]
          refine wpAnyH_take (i := 37) (v := ?_) rfl (by kernel_rfl) (by kernel_rfl) (by kernel_rfl) (fun _ _ _ h => h) (Or.inl ⟨by kernel_rfl, ?y37af5⟩) hHeld ?r37af5
          case y37af5 => (intro wq hSw; go_simp; try rfl)
          simp only [Act.put, List.setIfInBounds_toArray, List.set_cons_zero, List.set_cons_succ]
          refine wpAnyH_take (i := 38) (v := ?_) rfl (by kernel_rfl) (by kernel_rfl) (by kernel_rfl) (fun _ _ _ h => h) (Or.inl ⟨by kernel_rfl, ?y38af5⟩) hHeld ?r38af5
          case y38af5 => (intro wq hSw; go_simp; try rfl)
          simp only [Act.put, List.setIfInBounds_toArray, List.set_cons_zero, List.set_cons_succ]
          refine wpAnyH_take (i := 39) (v := ?_) rfl (by kernel_rfl) (by kernel_rfl) (by kernel_rfl) (fun _ _ _ h => h) (Or.inl ⟨by kernel_rfl, ?y39af5⟩) hHeld ?r39af5
          case y39af5 => (intro wq hSw; go_simp; try rfl)
          simp only [Act.put, List.setIfInBounds_toArray, List.set_cons_zero, List.set_cons_succ]
          refine wpAnyH_take (i := 40) (v := undef) rfl (by kernel_rfl) (by kernel_rfl) (by kernel_rfl) (fun _ _ _ h => h) (Or.inr ⟨by kernel_rfl, rfl⟩) hHeld ?r40af5
          simp only [Act.put, List.setIfInBounds_toArray, List.set_cons_zero, List.set_cons_succ]
          refine wpAnyH_take (i := 41) (v := undef) rfl (by kernel_rfl) (by kernel_rfl) (by kernel_rfl) (fun _ _ _ h => h) (Or.inr ⟨by kernel_rfl, rfl⟩) hHeld ?r41af5
          simp only [Act.put, List.setIfInBounds_toArray, List.set_cons_zero, List.set_cons_succ]
          refine wpAnyH_take (i := 42) (v := ?_) rfl (by kernel_rfl) (by kernel_rfl) (by kernel_rfl) (fun _ _ _ h => h) (Or.inl ⟨by kernel_rfl, ?y42af5⟩) hHeld ?r42af5
          case y42af5 => (intro wq hSw; go_simp; try rfl)
          simp only [Act.put, List.setIfInBounds_toArray, List.set_cons_zero, List.set_cons_succ]
          refine wpAnyH_take (i := 43) (v := ?_) rfl (by kernel_rfl) (by kernel_rfl) (by kernel_rfl) (fun _ _ _ h => h) (Or.inl ⟨by kernel_rfl, ?y43af5⟩) hHeld ?r43af5
          case y43af5 => (intro wq hSw; go_simp; try rfl)
          simp only [Act.put, List.setIfInBounds_toArray, List.set_cons_zero, List.set_cons_succ]
          refine wpAnyH_take (i := 44) (v := undef) rfl (by kernel_rfl) (by kernel_rfl) (by kernel_rfl) (fun _ _ _ h => h) (Or.inr ⟨by kernel_rfl, rfl⟩) hHeld ?r44af5
          simp only [Act.put, List.setIfInBounds_toArray, List.set_cons_zero, List.set_cons_succ]
          refine wpAnyH_take (i := 45) (v := undef) rfl (by kernel_rfl) (by kernel_rfl) (by kernel_rfl) (fun _ _ _ h => h) (Or.inr ⟨by kernel_rfl, rfl⟩) hHeld ?r45af5
          simp only [Act.put, List.setIfInBounds_toArray, List.set_cons_zero, List.set_cons_succ]
          refine wpAnyH_ready (rs := [46]) (by kernel_rfl) (by simp) ?_
          refine AllReadyH.cons rfl (fun K hK => ?_) AllReadyH.nil
          go_simp
          refine hK.out _ _ hHeld (fun _ => ?_)
          clear hK K
          refine wpAnyH_done (by kernel_rfl) ?_ _
          go_wp2_with fail
          go_ret
          exact ⟨ret_bool HF.out.symm, HW.out⟩
        have f5 : (y1 % 4 != 0) = false := bne_eq_false_iff_eq.2 (Decidable.not_not.1 q5)
        clear q5
        refine wpAnyH_take (i := 36) (v := ?_) rfl (by kernel_rfl) (by kernel_rfl) (by kernel_rfl) (fun _ _ _ h => h) (Or.inl ⟨by kernel_rfl, ?y36a⟩) hHeld ?r36a
        case y36a => (intro wq hSw; go_simp; try rfl)
        simp only [Act.put, List.setIfInBounds_toArray, List.set_cons_zero, List.set_cons_succ]
        refine wpAnyH_take (i := 37) (v := ?_) rfl (by kernel_rfl) (by kernel_rfl) (by kernel_rfl) (fun _ _ _ h => h) (Or.inl ⟨by kernel_rfl, ?y37a⟩) hHeld ?r37a
        case y37a => (intro wq hSw; go_simp; try rfl)
        simp only [Act.put, List.setIfInBounds_toArray, List.set_cons_zero, List.set_cons_succ]
        refine wpAnyH_take (i := 38) (v := ?_) rfl (by kernel_rfl) (by kernel_rfl) (by kernel_rfl) (fun _ _ _ h => h) (Or.inl ⟨by kernel_rfl, ?y38a⟩) hHeld ?r38a
        case y38a => (intro wq hSw; go_simp; try rfl)
        simp only [Act.put, List.setIfInBounds_toArray, List.set_cons_zero, List.set_cons_succ]
        refine wpAnyH_take (i := 39) (v := ?_) rfl (by kernel_rfl) (by kernel_rfl) (by kernel_rfl) (fun _ _ _ h => h) (Or.inl ⟨by kernel_rfl, ?y39a⟩) hHeld ?r39a
        case y39a => (intro wq hSw; go_simp; try rfl)
        simp only [Act.put, List.setIfInBounds_toArray, List.set_cons_zero, List.set_cons_succ]
        refine wpAnyH_take (i := 40) (v := ?_) rfl (by kernel_rfl) (by kernel_rfl) (by kernel_rfl) (fun _ _ _ h => h) (Or.inl ⟨by kernel_rfl, ?y40a⟩) hHeld ?r40a
        case y40a => (intro wq hSw; go_simp; try rfl)
        simp only [Act.put, List.setIfInBounds_toArray, List.set_cons_zero, List.set_cons_succ]
        by_cases q6 : (tn : Int) < 1
        · have f6 : decide ((tn : Int) < 1) = true := decide_eq_true q6
          have HF : Hid (rdescsB l = false) := hid_of (NO.out (rdescB_no (Or.inr (Or.inr (Or.inr (Or.inr (Or.inr (Or.inr (Or.inl (by have := TN1.out; show (tl.length : Int) < 1; omega))))))))))
          clear NO DE TG1 TN1 HP HX HC
          refine wpAnyH_take (i := 41) (v := ?_) rfl (by kernel_rfl) (by kernel_rfl) (by kernel_rfl) (fun _ _ _ h => h) (Or.inl ⟨by kernel_rfl, ?y41af6⟩) hHeld ?r41af6
          case y41af6 => (intro wq hSw; go_simp; try rfl)
          simp only [Act.put, List.setIfInBounds_toArray, List.set_cons_zero, List.set_cons_succ]
          refine wpAnyH_take (i := 42) (v := ?_) rfl (by kernel_rfl) (by kernel_rfl) (by kernel_rfl) (fun _ _ _ h => h) (Or.inl ⟨by kernel_rfl, ?y42af6⟩) hHeld ?r42af6
          case y42af6 => (intro wq hSw; go_simp; try rfl)
          simp only [Act.put, List.setIfInBounds_toArray, List.set_cons_zero, List.set_cons_succ]
          refine wpAnyH_take (i := 43) (v := ?_) rfl (by kernel_rfl) (by kernel_rfl) (by kernel_rfl) (fun _ _ _ h => h) (Or.inl ⟨by kernel_rfl, ?y43af6⟩) hHeld ?r43af6
          case y43af6 => (intro wq hSw; go_simp; try rfl)
          simp only [Act.put, List.setIfInBounds_toArray, List.set_cons_zero, List.set_cons_succ]
          refine wpAnyH_take (i := 44) (v := undef) rfl (by kernel_rfl) (by kernel_rfl) (by kernel_rfl) (fun _ _ _ h => h) (Or.inr ⟨by kernel_rfl, rfl⟩) hHeld ?r44af6
          simp only [Act.put, List.setIfInBounds_toArray, List.set_cons_zero, List.set_cons_succ]
          refine wpAnyH_take (i := 45) (v := undef) rfl (by kernel_rfl) (by kernel_rfl) (by kernel_rfl) (fun _ _ _ h => h) (Or.inr ⟨by kernel_rfl, rfl⟩) hHeld ?r45af6
          simp only [Act.put, List.setIfInBounds_toArray, List.set_cons_zero, List.set_cons_succ]
          refine wpAnyH_ready (rs := [46]) (by kernel_rfl) (by simp) ?_
          refine AllReadyH.cons rfl (fun K hK => ?_) AllReadyH.nil
          go_simp
          refine hK.out _ _ hHeld (fun _ => ?_)
          clear hK K
          refine wpAnyH_done (by kernel_rfl) ?_ _
          go_wp2_with fail
          go_ret
          exact ⟨ret_bool HF.out.symm, HW.out⟩
        have f6 : decide ((tn : Int) < 1) = false := decide_eq_false q6
        refine wpAnyH_take (i := 41) (v := ?_) rfl (by kernel_rfl) (by kernel_rfl) (by kernel_rfl) (fun _ _ _ h => h) (Or.inl ⟨by kernel_rfl, ?y41a⟩) hHeld ?r41a
        case y41a => (intro wq hSw; go_simp; try rfl)
        simp only [Act.put, List.setIfInBounds_toArray, List.set_cons_zero, List.set_cons_succ]
        refine wpAnyH_take (i := 42) (v := ?_) rfl (by kernel_rfl) (by kernel_rfl) (by kernel_rfl) (fun _ _ _ h => h) (Or.inl ⟨by kernel_rfl, ?y42a⟩) hHeld ?r42a
        case y42a => (intro wq hSw; go_simp; try rfl)
        simp only [Act.put, List.setIfInBounds_toArray, List.set_cons_zero, List.set_cons_succ]
        refine wpAnyH_take (i := 43) (v := ?_) rfl (by kernel_rfl) (by kernel_rfl) (by kernel_rfl) (fun _ _ _ h => h) (Or.inl ⟨by kernel_rfl, ?y43a⟩) hHeld ?r43a
        case y43a => (intro wq hSw; go_simp; try rfl)
        simp only [Act.put, List.setIfInBounds_toArray, List.set_cons_zero, List.set_cons_succ]
        refine wpAnyH_take (i := 44) (v := ?_) rfl (by kernel_rfl) (by kernel_rfl) (by kernel_rfl) (fun _ _ _ h => h) (Or.inl ⟨by kernel_rfl, ?y44a⟩) hHeld ?r44a
        case y44a => (intro wq hSw; go_simp; try rfl)
        simp only [Act.put, List.setIfInBounds_toArray, List.set_cons_zero, List.set_cons_succ]
        by_cases q7 : (4 : Int) < (tn : Int)
        · have f7 : decide ((4 : Int) < (tn : Int)) = true := decide_eq_true q7
          have HF : Hid (rdescsB l = false) := hid_of (NO.out (rdescB_no (Or.inr (Or.inr (Or.inr (Or.inr (Or.inr (Or.inr (Or.inr (Or.inl (by have := TN1.out; show (4 : Int) < (tl.length : Int); omega)))))))))))
          clear NO DE TG1 TN1 HP HX HC
          refine wpAnyH_ready (rs := [45]) (by kernel_rfl) (by simp) ?_
          refine AllReadyH.cons rfl (fun K hK => ?_) AllReadyH.nil
          go_simp
          refine hK.out _ _ hHeld (fun _ => ?_)
          clear hK K
          refine wpAnyH_ready (rs := [46]) (by kernel_rfl) (by simp) ?_
          refine AllReadyH.cons rfl (fun K hK => ?_) AllReadyH.nil
          go_simp
          refine hK.out _ _ hHeld (fun _ => ?_)
          clear hK K
          refine wpAnyH_done (by kernel_rfl) ?_ _
          go_wp2_with fail
          go_ret
          exact ⟨ret_bool HF.out.symm, HW.out⟩
        have f7 : decide ((4 : Int) < (tn : Int)) = false := decide_eq_false q7
        refine wpAnyH_ready (rs := [45]) (by kernel_rfl) (by simp) ?_
        refine AllReadyH.cons rfl (fun K hK => ?_) AllReadyH.nil
        go_simp
        refine hK.out _ _ hHeld (fun _ => ?_)
        clear hK K
        refine wpAnyH_ready (rs := [46]) (by kernel_rfl) (by simp) ?_
        refine AllReadyH.cons rfl (fun K hK => ?_) AllReadyH.nil
        go_simp
        refine hK.out _ _ hHeld (fun _ => ?_)
        clear hK K
        refine wpAnyH_done (by kernel_rfl) ?_ _
        obtain ⟨tb, tof, rfl, tcl⟩ := TG1.out (by omega)
        clear TG1
        obtain ⟨m, rfl⟩ : ∃ m, tn = m + 1 := ⟨tn - 1, by omega⟩
        have TCL := hid_of tcl
        have HWS : Hid (∀ X : World, (wr.alloc (.cells #[.int .i64 y0, .int .i64 y1, .slice (some ⟨tb, tof, none⟩) (m + 1) tc] 54)).heap.size ≤ X.heap.size → Below (wr.heap.size + 1) (wr.alloc (.cells #[.int .i64 y0, .int .i64 y1, .slice (some ⟨tb, tof, none⟩) (m + 1) tc] 54)) X → X.cell? ⟨wr.heap.size, 0, none⟩ = some (.int .i64 y0) ∧ X.cell? ⟨wr.heap.size, 2, none⟩ = some (.slice (some ⟨tb, tof, none⟩) (m + 1) tc)) := fun X _ hX => by
          have hb : X.heap[wr.heap.size]? = some (.cells #[.int .i64 y0, .int .i64 y1, .slice (some ⟨tb, tof, none⟩) (m + 1) tc] 54 (0, 0)) := (hX.block wr.heap.size (by omega)).trans (blk_new _ _)
          exact ⟨blk_cell hb 0, blk_cell hb 2⟩
        have W0 : Hid (Below (wr.heap.size + 1) (wr.alloc (.cells #[.int .i64 y0, .int .i64 y1, .slice (some ⟨tb, tof, none⟩) (m + 1) tc] 54)) (wr.alloc (.cells #[.int .i64 y0, .int .i64 y1, .slice (some ⟨tb, tof, none⟩) (m + 1) tc] 54)).drew) := hid_of (Below.drew (Below.refl _ _))
        have g1 : IntKind.i64.wrap (((m + 1 : Nat) : Int) - 1) = (m : Int) := by rw [IntWalk.i64_left, IntWalk.wrap64_in] <;> omega
        have g2 : IntKind.i64.wrap (m : Int) = (m : Int) := by rw [IntWalk.i64_left, IntWalk.wrap64_in] <;> omega
        have g3 : (0 : Int) ≤ (m : Int) := by omega
        have g4 : (m : Int) < ((m + 1 : Nat) : Int) := by omega
        have g5 : (m : Int) < (m : Int) + 1 := by omega
        clear tcl
        obtain ⟨wo, rfl⟩ : ∃ wo, wo = wr := ⟨_, rfl⟩
        clear hHeld hS
        all_goals
          go_wp2_with fail
          go_loopg [6] (m + 1) (fun hf s6 wy => ∃ j : Nat, s6 = .int .i64 (j : Int) ∧ j + hf = m + 1 ∧ Hid (Below (wo.heap.size + 1) (wo.alloc (.cells #[.int .i64 y0, .int .i64 y1, .slice (some ⟨tb, tof, none⟩) (m + 1) tc] 54)) wy) ∧ Hid (∀ q, q < j → cb (tl.getD q 0) = true))
          case atStart => exact ⟨0, rfl, by omega, W0.out, fun q hq => by omega⟩
          case round =>
            clear W0
            obtain ⟨j, rfl, hj, HJ, HQ⟩ := hrel
            have HWJ : Hid (Below w.heap.size w wr) := hid_of (HB.out.trans ((((Below.refl wo.heap.size wo).alloc (Nat.le_refl _) _).trans (HJ.out.mono (by omega))).mono HB.out.size))
            obtain ⟨c0, c2⟩ := HWS.out wr HJ.out.size HJ.out
            by_cases hjm : j < m + 1
            · obtain ⟨h', rfl⟩ : ∃ h', gk = h' + 1 := ⟨gk - 1, by omega⟩
              have dj : decide ((j : Int) < ((m + 1 : Nat) : Int)) = true := decide_eq_true (by omega)
              have dj2 : decide ((j : Int) < (m : Int) + 1) = true := decide_eq_true (by omega)
              have dj3 : (0 : Int) ≤ (j : Int) := by omega
              have dj4 : (j : Int) < (m : Int) + 1 := by omega
              have ct := TCL.out j hjm wr HWJ.out
              generalize hx : tl.getD j 0 = x at ct
              have HXJ := hid_of hx
              clear hx
              have DJ : Hid (Calls Try.prog 94 #[.slice (some ⟨b, off, none⟩) sn sc, .int .i64 x] wr fun e w' => e = .returned (.bool (cb x)) ∧ w' = wr) := hid_of (DE.out x wr HWJ.out)
              rcases bool_or (cb x) with hcx | hcx
              rotate_left
              · have HF : Hid (rdescsB l = false) := hid_of (NO.out (rdescB_no (Or.inr (Or.inr (Or.inr (Or.inr (Or.inr (Or.inr (Or.inr (Or.inr (Or.inl ⟨j, by rw [← TN1.out]; exact hjm, by rw [← HC.out]; show cb (tl.getD j 0) = false; rw [HXJ.out]; exact hcx⟩)))))))))))
                go_wp2_with (go_at_call 94; refine DJ.out.mono ?_; rintro e w5 ⟨rfl, hw5⟩; rw [hw5, hcx]; clear hw5)
                go_ret
                exact ⟨ret_bool HF.out.symm, HWJ.out⟩
              · have HQ2 : Hid (∀ q, q < j + 1 → cb (tl.getD q 0) = true) := hid_of fun q hq => by
                  rcases Nat.lt_or_ge q j with u | u
                  · exact HQ.out q u
                  · have : q = j := by omega
                    rw [this, HXJ.out]; exact hcx
                go_wp2_with (go_at_call 94; refine DJ.out.mono ?_; rintro e w5 ⟨rfl, hw5⟩; rw [hw5, hcx]; clear hw5)
                go_roundg h'
                case measure => omega
                case rel => exact ⟨j + 1, by simp, by omega, HJ.out, HQ2.out⟩
            · have dj : decide ((j : Int) < ((m + 1 : Nat) : Int)) = false := decide_eq_false (by omega)
              have dj2 : decide ((j : Int) < (m : Int) + 1) = false := decide_eq_false (by omega)
              have cl := TCL.out m (by omega) wr HWJ.out
              have HTL : Hid (tl.getD (tl.length - 1) 0 = tl.getD m 0) := hid_of (by rw [← TN1.out, Nat.add_sub_cancel])
              generalize hx : tl.getD m 0 = x at cl HTL
              clear hx
              rcases bool_or (x != y0) with hne | hne
              rotate_left
              · have HY2 : Hid (rdescB l (i) (l.getD (i) (0, 0, [])) = true) := hid_of (by
                  rw [← HX.out]
                  exact rdescB_yes (by show 8 ≤ y0; omega) (by show y0 < 200; omega) HZ.out (by show 0 ≤ y1; omega) (by show y1 ≤ 16384; omega) (by show y1 % 4 = 0; simpa using f5) (by show 0 < (tl.length : Int); have := TN1.out; omega) (by show (tl.length : Int) ≤ 4; have := TN1.out; omega) (fun q hq => by rw [← HC.out]; exact HQ.out q (by have := TN1.out; have hq : q < tl.length := hq; omega)) (by show tl.getD (tl.length - 1) 0 = y0; rw [HTL.out]; simpa using hne))
                have HP2 : Hid (∀ q, q < i + 1 → rdescB l q (l.getD q (0, 0, [])) = true) := hid_of fun q hq => by
                  rcases Nat.lt_or_ge q (i) with u | u
                  · exact HP.out q u
                  · have : q = i := by omega
                    rw [this]; exact HY2.out
                clear HY2 HP HQ
                go_wp2
                go_region
                all_goals
                  go_wp2
                  go_roundg g'
                  case measure => omega
                  case rel => exact ⟨i + 1, by simp, by omega, HWJ.out.drew, HP2.out⟩
              · have HF : Hid (rdescsB l = false) := hid_of (NO.out (rdescB_no (Or.inr (Or.inr (Or.inr (Or.inr (Or.inr (Or.inr (Or.inr (Or.inr (Or.inr (by show tl.getD (tl.length - 1) 0 ≠ y0; rw [HTL.out]; simpa using hne))))))))))))
                clear HP HQ
                go_wp2
                go_region
                all_goals
                  go_wp2
                  go_ret
                  exact ⟨ret_bool HF.out.symm, HWJ.out.drew⟩
      · obtain ⟨k, rfl⟩ : ∃ k, i = k + 1 := ⟨i - 1, by omega⟩
        have kp := PV.out k rfl
        clear PV
        have PV : True := trivial
        have z0 : decide ((0 : Int) < ((k + 1 : Nat) : Int)) = true := decide_eq_true (by omega)
        have z1 : decide ((0 : Int) < (k : Int) + 1) = true := decide_eq_true (by omega)
        have z2 : decide ((k : Int) + 1 < (sn : Int)) = true := decide_eq_true (by omega)
        have e1 : IntKind.i64.wrap (((k + 1 : Nat) : Int) - 1) = (k : Int) := by rw [IntWalk.i64_left, IntWalk.wrap64_in] <;> omega
        have e2 : IntKind.i64.wrap (k : Int) = (k : Int) := by rw [IntWalk.i64_left, IntWalk.wrap64_in] <;> omega
        have m0 : (0 : Int) ≤ (k : Int) := by omega
        have m1 : (k : Int) < (sn : Int) := by omega
        have m2 : k < sn := by omega
        have m3 : (0 : Int) ≤ (k : Int) + 1 := by omega
        have m4 : (k : Int) + 1 < (sn : Int) := by omega
        obtain ⟨y, hy⟩ : ∃ y, y = (l.getD (k + 1 - 1) (0, 0, [])).1 := ⟨_, rfl⟩
        rw [← hy] at kp
        have HY : Hid (y = (l.getD (k + 1 - 1) (0, 0, [])).1) := hy
        clear hy
        have hS : (fun X => X.cell? ⟨wr.heap.size, 0, none⟩ = some (.int .i64 y0) ∧ X.cell? ⟨wr.heap.size, 1, none⟩ = some (.int .i64 y1) ∧ X.cell? ⟨b, off + k * 3, none⟩ = some (.int .i64 y)) (wr.alloc (.cells #[.int .i64 y0, .int .i64 y1, .slice ta tn tc] 54)).drew := ⟨blk_cell (blk_newd _ _) 0, blk_cell (blk_newd _ _) 1, (World.cell?_of_block (a := ⟨b, off + k * 3, none⟩) (Below.heap_alloc _ _ _ (cell_lt0 kp))).trans kp⟩
        go_wp2
        refine wp_region_held_drew (S := (fun X => X.cell? ⟨wr.heap.size, 0, none⟩ = some (.int .i64 y0) ∧ X.cell? ⟨wr.heap.size, 1, none⟩ = some (.int .i64 y1) ∧ X.cell? ⟨b, off + k * 3, none⟩ = some (.int .i64 y))) (by kernel_rfl) hS (fun hHeld => ?_)
        refine wpAnyH_take (i := 0) (v := ?_) rfl (by kernel_rfl) (by kernel_rfl) (by kernel_rfl) (fun _ _ _ h => h) (Or.inl ⟨by kernel_rfl, ?y0b⟩) hHeld ?r0b
        case y0b => (intro wq hSw; go_simp; try rfl)
        simp only [Act.put, List.setIfInBounds_toArray, List.set_cons_zero, List.set_cons_succ]
        refine wpAnyH_take (i := 1) (v := ?_) rfl (by kernel_rfl) (by kernel_rfl) (by kernel_rfl) (fun _ _ _ h => h) (Or.inl ⟨by kernel_rfl, ?y1b⟩) hHeld ?r1b
        case y1b => (intro wq hSw; have q1 := hSw.1; go_simp; try rfl)
        simp only [Act.put, List.setIfInBounds_toArray, List.set_cons_zero, List.set_cons_succ]
        refine wpAnyH_take (i := 2) (v := ?_) rfl (by kernel_rfl) (by kernel_rfl) (by kernel_rfl) (fun _ _ _ h => h) (Or.inl ⟨by kernel_rfl, ?y2b⟩) hHeld ?r2b
        case y2b => (intro wq hSw; go_simp; try rfl)
        simp only [Act.put, List.setIfInBounds_toArray, List.set_cons_zero, List.set_cons_succ]
        refine wpAnyH_take (i := 3) (v := ?_) rfl (by kernel_rfl) (by kernel_rfl) (by kernel_rfl) (fun _ _ _ h => h) (Or.inl ⟨by kernel_rfl, ?y3b⟩) hHeld ?r3b
        case y3b => (intro wq hSw; go_simp; try rfl)
        simp only [Act.put, List.setIfInBounds_toArray, List.set_cons_zero, List.set_cons_succ]
        refine wpAnyH_take (i := 4) (v := ?_) rfl (by kernel_rfl) (by kernel_rfl) (by kernel_rfl) (fun _ _ _ h => h) (Or.inl ⟨by kernel_rfl, ?y4b⟩) hHeld ?r4b
        case y4b => (intro wq hSw; go_simp; try rfl)
        simp only [Act.put, List.setIfInBounds_toArray, List.set_cons_zero, List.set_cons_succ]
        refine wpAnyH_take (i := 5) (v := ?_) rfl (by kernel_rfl) (by kernel_rfl) (by kernel_rfl) (fun _ _ _ h => h) (Or.inl ⟨by kernel_rfl, ?y5b⟩) hHeld ?r5b
        case y5b => (intro wq hSw; have q1 := hSw.1; go_simp; try rfl)
        simp only [Act.put, List.setIfInBounds_toArray, List.set_cons_zero, List.set_cons_succ]
        refine wpAnyH_take (i := 6) (v := ?_) rfl (by kernel_rfl) (by kernel_rfl) (by kernel_rfl) (fun _ _ _ h => h) (Or.inl ⟨by kernel_rfl, ?y6b⟩) hHeld ?r6b
        case y6b => (intro wq hSw; go_simp; try rfl)
        simp only [Act.put, List.setIfInBounds_toArray, List.set_cons_zero, List.set_cons_succ]
        refine wpAnyH_take (i := 7) (v := ?_) rfl (by kernel_rfl) (by kernel_rfl) (by kernel_rfl) (fun _ _ _ h => h) (Or.inl ⟨by kernel_rfl, ?y7b⟩) hHeld ?r7b
        case y7b => (intro wq hSw; go_simp; try rfl)
        simp only [Act.put, List.setIfInBounds_toArray, List.set_cons_zero, List.set_cons_succ]
        refine wpAnyH_take (i := 8) (v := ?_) rfl (by kernel_rfl) (by kernel_rfl) (by kernel_rfl) (fun _ _ _ h => h) (Or.inl ⟨by kernel_rfl, ?y8b⟩) hHeld ?r8b
        case y8b => (intro wq hSw; go_simp; try rfl)
        simp only [Act.put, List.setIfInBounds_toArray, List.set_cons_zero, List.set_cons_succ]
        refine wpAnyH_take (i := 9) (v := ?_) rfl (by kernel_rfl) (by kernel_rfl) (by kernel_rfl) (fun _ _ _ h => h) (Or.inl ⟨by kernel_rfl, ?y9b⟩) hHeld ?r9b
        case y9b => (intro wq hSw; go_simp; try rfl)
        simp only [Act.put, List.setIfInBounds_toArray, List.set_cons_zero, List.set_cons_succ]
        refine wpAnyH_take (i := 10) (v := ?_) rfl (by kernel_rfl) (by kernel_rfl) (by kernel_rfl) (fun _ _ _ h => h) (Or.inl ⟨by kernel_rfl, ?y10b⟩) hHeld ?r10b
        case y10b => (intro wq hSw; go_simp; try rfl)
        simp only [Act.put, List.setIfInBounds_toArray, List.set_cons_zero, List.set_cons_succ]
        refine wpAnyH_take (i := 11) (v := ?_) rfl (by kernel_rfl) (by kernel_rfl) (by kernel_rfl) (fun _ _ _ h => h) (Or.inl ⟨by kernel_rfl, ?y11b⟩) hHeld ?r11b
        case y11b => (intro wq hSw; go_simp; try rfl)
        simp only [Act.put, List.setIfInBounds_toArray, List.set_cons_zero, List.set_cons_succ]
        refine wpAnyH_take (i := 12) (v := ?_) rfl (by kernel_rfl) (by kernel_rfl) (by kernel_rfl) (fun _ _ _ h => h) (Or.inl ⟨by kernel_rfl, ?y12b⟩) hHeld ?r12b
        case y12b => (intro wq hSw; go_simp; try rfl)
        simp only [Act.put, List.setIfInBounds_toArray, List.set_cons_zero, List.set_cons_succ]
        refine wpAnyH_take (i := 13) (v := ?_) rfl (by kernel_rfl) (by kernel_rfl) (by kernel_rfl) (fun _ _ _ h => h) (Or.inl ⟨by kernel_rfl, ?y13b⟩) hHeld ?r13b
        case y13b => (intro wq hSw; have q1 := hSw.1; go_simp; try rfl)
        simp only [Act.put, List.setIfInBounds_toArray, List.set_cons_zero, List.set_cons_succ]
        refine wpAnyH_take (i := 14) (v := ?_) rfl (by kernel_rfl) (by kernel_rfl) (by kernel_rfl) (fun _ _ _ h => h) (Or.inl ⟨by kernel_rfl, ?y14b⟩) hHeld ?r14b
        case y14b => (intro wq hSw; go_simp; try rfl)
        simp only [Act.put, List.setIfInBounds_toArray, List.set_cons_zero, List.set_cons_succ]
        refine wpAnyH_take (i := 15) (v := ?_) rfl (by kernel_rfl) (by kernel_rfl) (by kernel_rfl) (fun _ _ _ h => h) (Or.inl ⟨by kernel_rfl, ?y15b⟩) hHeld ?r15b
        case y15b => (intro wq hSw; go_simp; try rfl)
        simp only [Act.put, List.setIfInBounds_toArray, List.set_cons_zero, List.set_cons_succ]
        refine wpAnyH_take (i := 16) (v := ?_) rfl (by kernel_rfl) (by kernel_rfl) (by kernel_rfl) (fun _ _ _ h => h) (Or.inl ⟨by kernel_rfl, ?y16b⟩) hHeld ?r16b
        case y16b => (intro wq hSw; go_simp; try rfl)
        simp only [Act.put, List.setIfInBounds_toArray, List.set_cons_zero, List.set_cons_succ]
        refine wpAnyH_take (i := 17) (v := ?_) rfl (by kernel_rfl) (by kernel_rfl) (by kernel_rfl) (fun _ _ _ h => h) (Or.inl ⟨by kernel_rfl, ?y17b⟩) hHeld ?r17b
        case y17b => (intro wq hSw; go_simp; try rfl)
        simp only [Act.put, List.setIfInBounds_toArray, List.set_cons_zero, List.set_cons_succ]
        refine wpAnyH_take (i := 18) (v := ?_) rfl (by kernel_rfl) (by kernel_rfl) (by kernel_rfl) (fun _ _ _ h => h) (Or.inl ⟨by kernel_rfl, ?y18b⟩) hHeld ?r18b
        case y18b => (intro wq hSw; go_simp; try rfl)
        simp only [Act.put, List.setIfInBounds_toArray, List.set_cons_zero, List.set_cons_succ]
        refine wpAnyH_take (i := 19) (v := ?_) rfl (by kernel_rfl) (by kernel_rfl) (by kernel_rfl) (fun _ _ _ h => h) (Or.inl ⟨by kernel_rfl, ?y19b⟩) hHeld ?r19b
        case y19b => (intro wq hSw; have q1 := hSw.2.2; go_simp; try rfl)
        simp only [Act.put, List.setIfInBounds_toArray, List.set_cons_zero, List.set_cons_succ]
        by_cases q2 : y0 ≤ y
        · have f2 : decide (y0 ≤ y) = true := decide_eq_true q2
          have HF : Hid (rdescsB l = false) := hid_of (NO.out (rdescB_no (Or.inr (Or.inr (Or.inl ⟨by omega, by rw [← HY.out]; exact q2⟩)))))
          clear NO DE TG1 TN1 HP HX HC
          refine wpAnyH_take (i := 20) (v := ?_) rfl (by kernel_rfl) (by kernel_rfl) (by kernel_rfl) (fun _ _ _ h => h) (Or.inl ⟨by kernel_rfl, ?y20bf2⟩) hHeld ?r20bf2
          case y20bf2 => (intro wq hSw; go_simp; try rfl)
          simp only [Act.put, List.setIfInBounds_toArray, List.set_cons_zero, List.set_cons_succ]
          refine wpAnyH_take (i := 21) (v := ?_) rfl (by kernel_rfl) (by kernel_rfl) (by kernel_rfl) (fun _ _ _ h => h) (Or.inl ⟨by kernel_rfl, ?y21bf2⟩) hHeld ?r21bf2
          case y21bf2 => (intro wq hSw; go_simp; try rfl)
          simp only [Act.put, List.setIfInBounds_toArray, List.set_cons_zero, List.set_cons_succ]
          refine wpAnyH_take (i := 22) (v := ?_) rfl (by kernel_rfl) (by kernel_rfl) (by kernel_rfl) (fun _ _ _ h => h) (Or.inl ⟨by kernel_rfl, ?y22bf2⟩) hHeld ?r22bf2
          case y22bf2 => (intro wq hSw; go_simp; try rfl)
          simp only [Act.put, List.setIfInBounds_toArray, List.set_cons_zero, List.set_cons_succ]
          refine wpAnyH_take (i := 23) (v := ?_) rfl (by kernel_rfl) (by kernel_rfl) (by kernel_rfl) (fun _ _ _ h => h) (Or.inl ⟨by kernel_rfl, ?y23bf2⟩) hHeld ?r23bf2
          case y23bf2 => (intro wq hSw; go_simp; try rfl)
          simp only [Act.put, List.setIfInBounds_toArray, List.set_cons_zero, List.set_cons_succ]
          refine wpAnyH_take (i := 24) (v := undef) rfl (by kernel_rfl) (by kernel_rfl) (by kernel_rfl) (fun _ _ _ h => h) (Or.inr ⟨by kernel_rfl, rfl⟩) hHeld ?r24bf2
          simp only [Act.put, List.setIfInBounds_toArray, List.set_cons_zero, List.set_cons_succ]
          refine wpAnyH_take (i := 25) (v := undef) rfl (by kernel_rfl) (by kernel_rfl) (by kernel_rfl) (fun _ _ _ h => h) (Or.inr ⟨by kernel_rfl, rfl⟩) hHeld ?r25bf2
          simp only [Act.put, List.setIfInBounds_toArray, List.set_cons_zero, List.set_cons_succ]
          refine wpAnyH_take (i := 26) (v := undef) rfl (by kernel_rfl) (by kernel_rfl) (by kernel_rfl) (fun _ _ _ h => h) (Or.inr ⟨by kernel_rfl, rfl⟩) hHeld ?r26bf2
          simp only [Act.put, List.setIfInBounds_toArray, List.set_cons_zero, List.set_cons_succ]
          refine wpAnyH_take (i := 27) (v := ?_) rfl (by kernel_rfl) (by kernel_rfl) (by kernel_rfl) (fun _ _ _ h => h) (Or.inl ⟨by kernel_rfl, ?y27bf2⟩) hHeld ?r27bf2
          case y27bf2 => (intro wq hSw; go_simp; try rfl)
          simp only [Act.put, List.setIfInBounds_toArray, List.set_cons_zero, List.set_cons_succ]
          refine wpAnyH_take (i := 28) (v := ?_) rfl (by kernel_rfl) (by kernel_rfl) (by kernel_rfl) (fun _ _ _ h => h) (Or.inl ⟨by kernel_rfl, ?y28bf2⟩) hHeld ?r28bf2
          case y28bf2 => (intro wq hSw; go_simp; try rfl)
          simp only [Act.put, List.setIfInBounds_toArray, List.set_cons_zero, List.set_cons_succ]
          refine wpAnyH_take (i := 29) (v := undef) rfl (by kernel_rfl) (by kernel_rfl) (by kernel_rfl) (fun _ _ _ h => h) (Or.inr ⟨by kernel_rfl, rfl⟩) hHeld ?r29bf2
          simp only [Act.put, List.setIfInBounds_toArray, List.set_cons_zero, List.set_cons_succ]
          refine wpAnyH_take (i := 30) (v := undef) rfl (by kernel_rfl) (by kernel_rfl) (by kernel_rfl) (fun _ _ _ h => h) (Or.inr ⟨by kernel_rfl, rfl⟩) hHeld ?r30bf2
          simp only [Act.put, List.setIfInBounds_toArray, List.set_cons_zero, List.set_cons_succ]
          refine wpAnyH_take (i := 31) (v := undef) rfl (by kernel_rfl) (by kernel_rfl) (by kernel_rfl) (fun _ _ _ h => h) (Or.inr ⟨by kernel_rfl, rfl⟩) hHeld ?r31bf2
          simp only [Act.put, List.setIfInBounds_toArray, List.set_cons_zero, List.set_cons_succ]
          refine wpAnyH_take (i := 32) (v := ?_) rfl (by kernel_rfl) (by kernel_rfl) (by kernel_rfl) (fun _ _ _ h => h) (Or.inl ⟨by kernel_rfl, ?y32bf2⟩) hHeld ?r32bf2
          case y32bf2 => (intro wq hSw; go_simp; try rfl)
          simp only [Act.put, List.setIfInBounds_toArray, List.set_cons_zero, List.set_cons_succ]
          refine wpAnyH_take (i := 33) (v := ?_) rfl (by kernel_rfl) (by kernel_rfl) (by kernel_rfl) (fun _ _ _ h => h) (Or.inl ⟨by kernel_rfl, ?y33bf2⟩) hHeld ?r33bf2
          case y33bf2 => (intro wq hSw; go_simp; try rfl)
          simp only [Act.put, List.setIfInBounds_toArray, List.set_cons_zero, List.set_cons_succ]
          refine wpAnyH_take (i := 34) (v := undef) rfl (by kernel_rfl) (by kernel_rfl) (by kernel_rfl) (fun _ _ _ h => h) (Or.inr ⟨by kernel_rfl, rfl⟩) hHeld ?r34bf2
          simp only [Act.put, List.setIfInBounds_toArray, List.set_cons_zero, List.set_cons_succ]
          refine wpAnyH_take (i := 35) (v := undef) rfl (by kernel_rfl) (by kernel_rfl) (by kernel_rfl) (fun _ _ _ h => h) (Or.inr ⟨by kernel_rfl, rfl⟩) hHeld ?r35bf2
          simp only [Act.put, List.setIfInBounds_toArray, List.set_cons_zero, List.set_cons_succ]
          refine wpAnyH_take (i := 36) (v := undef) rfl (by kernel_rfl) (by kernel_rfl) (by kernel_rfl) (fun _ _ _ h => h) (Or.inr ⟨by kernel_rfl, rfl⟩) hHeld ?r36bf2
          simp only [Act.put, List.setIfInBounds_toArray, List.set_cons_zero, List.set_cons_succ]
          refine wpAnyH_take (i := 37) (v := undef) rfl (by kernel_rfl) (by kernel_rfl) (by kernel_rfl) (fun _ _ _ h => h) (Or.inr ⟨by kernel_rfl, rfl⟩) hHeld ?r37bf2
          simp only [Act.put, List.setIfInBounds_toArray, List.set_cons_zero, List.set_cons_succ]
          refine wpAnyH_take (i := 38) (v := ?_) rfl (by kernel_rfl) (by kernel_rfl) (by kernel_rfl) (fun _ _ _ h => h) (Or.inl ⟨by kernel_rfl, ?y38bf2⟩) hHeld ?r38bf2
          case y38bf2 => (intro wq hSw; go_simp; try rfl)
          simp only [Act.put, List.setIfInBounds_toArray, List.set_cons_zero, List.set_cons_succ]
          refine wpAnyH_take (i := 39) (v := ?_) rfl (by kernel_rfl) (by kernel_rfl) (by kernel_rfl) (fun _ _ _ h => h) (Or.inl ⟨by kernel_rfl, ?y39bf2⟩) hHeld ?r39bf2
          case y39bf2 => (intro wq hSw; go_simp; try rfl)
          simp only [Act.put, List.setIfInBounds_toArray, List.set_cons_zero, List.set_cons_succ]
          refine wpAnyH_take (i := 40) (v := undef) rfl (by kernel_rfl) (by kernel_rfl) (by kernel_rfl) (fun _ _ _ h => h) (Or.inr ⟨by kernel_rfl, rfl⟩) hHeld ?r40bf2
          simp only [Act.put, List.setIfInBounds_toArray, List.set_cons_zero, List.set_cons_succ]
          refine wpAnyH_take (i := 41) (v := undef) rfl (by kernel_rfl) (by kernel_rfl) (by kernel_rfl) (fun _ _ _ h => h) (Or.inr ⟨by kernel_rfl, rfl⟩) hHeld ?r41bf2
          simp only [Act.put, List.setIfInBounds_toArray, List.set_cons_zero, List.set_cons_succ]
          refine wpAnyH_take (i := 42) (v := ?_) rfl (by kernel_rfl) (by kernel_rfl) (by kernel_rfl) (fun _ _ _ h => h) (Or.inl ⟨by kernel_rfl, ?y42bf2⟩) hHeld ?r42bf2
          case y42bf2 => (intro wq hSw; go_simp; try rfl)
          simp only [Act.put, List.setIfInBounds_toArray, List.set_cons_zero, List.set_cons_succ]
          refine wpAnyH_take (i := 43) (v := ?_) rfl (by kernel_rfl) (by kernel_rfl) (by kernel_rfl) (fun _ _ _ h => h) (Or.inl ⟨by kernel_rfl, ?y43bf2⟩) hHeld ?r43bf2
          case y43bf2 => (intro wq hSw; go_simp; try rfl)
          simp only [Act.put, List.setIfInBounds_toArray, List.set_cons_zero, List.set_cons_succ]
          refine wpAnyH_take (i := 44) (v := undef) rfl (by kernel_rfl) (by kernel_rfl) (by kernel_rfl) (fun _ _ _ h => h) (Or.inr ⟨by kernel_rfl, rfl⟩) hHeld ?r44bf2
          simp only [Act.put, List.setIfInBounds_toArray, List.set_cons_zero, List.set_cons_succ]
          refine wpAnyH_take (i := 45) (v := undef) rfl (by kernel_rfl) (by kernel_rfl) (by kernel_rfl) (fun _ _ _ h => h) (Or.inr ⟨by kernel_rfl, rfl⟩) hHeld ?r45bf2
          simp only [Act.put, List.setIfInBounds_toArray, List.set_cons_zero, List.set_cons_succ]
          refine wpAnyH_ready (rs := [46]) (by kernel_rfl) (by simp) ?_
          refine AllReadyH.cons rfl (fun K hK => ?_) AllReadyH.nil
          go_simp
          refine hK.out _ _ hHeld (fun _ => ?_)
          clear hK K
          refine wpAnyH_done (by kernel_rfl) ?_ _
          go_wp2_with fail
          go_ret
          exact ⟨ret_bool HF.out.symm, HW.out⟩
        have f2 : decide (y0 ≤ y) = false := decide_eq_false q2
        have HZ : Hid (k + 1 = 0 ∨ (l.getD (k + 1 - 1) (0, 0, [])).1 < y0) := hid_of (Or.inr (by rw [← HY.out]; omega))
        refine wpAnyH_take (i := 20) (v := ?_) rfl (by kernel_rfl) (by kernel_rfl) (by kernel_rfl) (fun _ _ _ h => h) (Or.inl ⟨by kernel_rfl, ?y20b⟩) hHeld ?r20b
        case y20b => (intro wq hSw; go_simp; try rfl)
        simp only [Act.put, List.setIfInBounds_toArray, List.set_cons_zero, List.set_cons_succ]
        refine wpAnyH_take (i := 21) (v := ?_) rfl (by kernel_rfl) (by kernel_rfl) (by kernel_rfl) (fun _ _ _ h => h) (Or.inl ⟨by kernel_rfl, ?y21b⟩) hHeld ?r21b
        case y21b => (intro wq hSw; go_simp; try rfl)
        simp only [Act.put, List.setIfInBounds_toArray, List.set_cons_zero, List.set_cons_succ]
        refine wpAnyH_take (i := 22) (v := ?_) rfl (by kernel_rfl) (by kernel_rfl) (by kernel_rfl) (fun _ _ _ h => h) (Or.inl ⟨by kernel_rfl, ?y22b⟩) hHeld ?r22b
        case y22b => (intro wq hSw; go_simp; try rfl)
        simp only [Act.put, List.setIfInBounds_toArray, List.set_cons_zero, List.set_cons_succ]
        refine wpAnyH_take (i := 23) (v := ?_) rfl (by kernel_rfl) (by kernel_rfl) (by kernel_rfl) (fun _ _ _ h => h) (Or.inl ⟨by kernel_rfl, ?y23b⟩) hHeld ?r23b
        case y23b => (intro wq hSw; go_simp; try rfl)
        simp only [Act.put, List.setIfInBounds_toArray, List.set_cons_zero, List.set_cons_succ]
        refine wpAnyH_take (i := 24) (v := ?_) rfl (by kernel_rfl) (by kernel_rfl) (by kernel_rfl) (fun _ _ _ h => h) (Or.inl ⟨by kernel_rfl, ?y24b⟩) hHeld ?r24b
        case y24b => (intro wq hSw; go_simp; try rfl)
        simp only [Act.put, List.setIfInBounds_toArray, List.set_cons_zero, List.set_cons_succ]
        refine wpAnyH_take (i := 25) (v := ?_) rfl (by kernel_rfl) (by kernel_rfl) (by kernel_rfl) (fun _ _ _ h => h) (Or.inl ⟨by kernel_rfl, ?y25b⟩) hHeld ?r25b
        case y25b => (intro wq hSw; have q1 := hSw.2.1; go_simp; try rfl)
        simp only [Act.put, List.setIfInBounds_toArray, List.set_cons_zero, List.set_cons_succ]
        by_cases q3 : y1 < 0
        · have f3 : decide (y1 < 0) = true := decide_eq_true q3
          have HF : Hid (rdescsB l = false) := hid_of (NO.out (rdescB_no (Or.inr (Or.inr (Or.inr (Or.inl q3))))))
          clear NO DE TG1 TN1 HP HX HC
          refine wpAnyH_take (i := 26) (v := ?_) rfl (by kernel_rfl) (by kernel_rfl) (by kernel_rfl) (fun _ _ _ h => h) (Or.inl ⟨by kernel_rfl, ?y26bf3⟩) hHeld ?r26bf3
          case y26bf3 => (intro wq hSw; go_simp; try rfl)
          simp only [Act.put, List.setIfInBounds_toArray, List.set_cons_zero, List.set_cons_succ]
          refine wpAnyH_take (i := 27) (v := ?_) rfl (by kernel_rfl) (by kernel_rfl) (by kernel_rfl) (fun _ _ _ h => h) (Or.inl ⟨by kernel_rfl, ?y27bf3⟩) hHeld ?r27bf3
          case y27bf3 => (intro wq hSw; go_simp; try rfl)
          simp only [Act.put, List.setIfInBounds_toArray, List.set_cons_zero, List.set_cons_succ]
          refine wpAnyH_take (i := 28) (v := ?_) rfl (by kernel_rfl) (by kernel_rfl) (by kernel_rfl) (fun _ _ _ h => h) (Or.inl ⟨by kernel_rfl, ?y28bf3⟩) hHeld ?r28bf3
          case y28bf3 => (intro wq hSw; go_simp; try rfl)
          simp only [Act.put, List.setIfInBounds_toArray, List.set_cons_zero, List.set_cons_succ]
          refine wpAnyH_take (i := 29) (v := undef) rfl (by kernel_rfl) (by kernel_rfl) (by kernel_rfl) (fun _ _ _ h => h) (Or.inr ⟨by kernel_rfl, rfl⟩) hHeld ?r29bf3
          simp only [Act.put, List.setIfInBounds_toArray, List.set_cons_zero, List.set_cons_succ]
          refine wpAnyH_take (i := 30) (v := undef) rfl (by kernel_rfl) (by kernel_rfl) (by kernel_rfl) (fun _ _ _ h => h) (Or.inr ⟨by kernel_rfl, rfl⟩) hHeld ?r30bf3
          simp only [Act.put, List.setIfInBounds_toArray, List.set_cons_zero, List.set_cons_succ]
          refine wpAnyH_take (i := 31) (v := undef) rfl (by kernel_rfl) (by kernel_rfl) (by kernel_rfl) (fun _ _ _ h => h) (Or.inr ⟨by kernel_rfl, rfl⟩) hHeld ?r31bf3
          simp only [Act.put, List.setIfInBounds_toArray, List.set_cons_zero, List.set_cons_succ]
          refine wpAnyH_take (i := 32) (v := ?_) rfl (by kernel_rfl) (by kernel_rfl) (by kernel_rfl) (fun _ _ _ h => h) (Or.inl ⟨by kernel_rfl, ?y32bf3⟩) hHeld ?r32bf3
          case y32bf3 => (intro wq hSw; go_simp; try rfl)
          simp only [Act.put, List.setIfInBounds_toArray, List.set_cons_zero, List.set_cons_succ]
          refine wpAnyH_take (i := 33) (v := ?_) rfl (by kernel_rfl) (by kernel_rfl) (by kernel_rfl) (fun _ _ _ h => h) (Or.inl ⟨by kernel_rfl, ?y33bf3⟩) hHeld ?r33bf3
          case y33bf3 => (intro wq hSw; go_simp; try rfl)
          simp only [Act.put, List.setIfInBounds_toArray, List.set_cons_zero, List.set_cons_succ]
          refine wpAnyH_take (i := 34) (v := undef) rfl (by kernel_rfl) (by kernel_rfl) (by kernel_rfl) (fun _ _ _ h => h) (Or.inr ⟨by kernel_rfl, rfl⟩) hHeld ?r34bf3
          simp only [Act.put, List.setIfInBounds_toArray, List.set_cons_zero, List.set_cons_succ]
          refine wpAnyH_take (i := 35) (v := undef) rfl (by kernel_rfl) (by kernel_rfl) (by kernel_rfl) (fun _ _ _ h => h) (Or.inr ⟨by kernel_rfl, rfl⟩) hHeld ?r35bf3
          simp only [Act.put, List.setIfInBounds_toArray, List.set_cons_zero, List.set_cons_succ]
          refine wpAnyH_take (i := 36) (v := undef) rfl (by kernel_rfl) (by kernel_rfl) (by kernel_rfl) (fun _ _ _ h => h) (Or.inr ⟨by kernel_rfl, rfl⟩) hHeld ?r36bf3
          simp only [Act.put, List.setIfInBounds_toArray, List.set_cons_zero, List.set_cons_succ]
          refine wpAnyH_take (i := 37) (v := undef) rfl (by kernel_rfl) (by kernel_rfl) (by kernel_rfl) (fun _ _ _ h => h) (Or.inr ⟨by kernel_rfl, rfl⟩) hHeld ?r37bf3
          simp only [Act.put, List.setIfInBounds_toArray, List.set_cons_zero, List.set_cons_succ]
          refine wpAnyH_take (i := 38) (v := ?_) rfl (by kernel_rfl) (by kernel_rfl) (by kernel_rfl) (fun _ _ _ h => h) (Or.inl ⟨by kernel_rfl, ?y38bf3⟩) hHeld ?r38bf3
          case y38bf3 => (intro wq hSw; go_simp; try rfl)
          simp only [Act.put, List.setIfInBounds_toArray, List.set_cons_zero, List.set_cons_succ]
          refine wpAnyH_take (i := 39) (v := ?_) rfl (by kernel_rfl) (by kernel_rfl) (by kernel_rfl) (fun _ _ _ h => h) (Or.inl ⟨by kernel_rfl, ?y39bf3⟩) hHeld ?r39bf3
          case y39bf3 => (intro wq hSw; go_simp; try rfl)
          simp only [Act.put, List.setIfInBounds_toArray, List.set_cons_zero, List.set_cons_succ]
          refine wpAnyH_take (i := 40) (v := undef) rfl (by kernel_rfl) (by kernel_rfl) (by kernel_rfl) (fun _ _ _ h => h) (Or.inr ⟨by kernel_rfl, rfl⟩) hHeld ?r40bf3
          simp only [Act.put, List.setIfInBounds_toArray, List.set_cons_zero, List.set_cons_succ]
          refine wpAnyH_take (i := 41) (v := undef) rfl (by kernel_rfl) (by kernel_rfl) (by kernel_rfl) (fun _ _ _ h => h) (Or.inr ⟨by kernel_rfl, rfl⟩) hHeld ?r41bf3
          simp only [Act.put, List.setIfInBounds_toArray, List.set_cons_zero, List.set_cons_succ]
          refine wpAnyH_take (i := 42) (v := ?_) rfl (by kernel_rfl) (by kernel_rfl) (by kernel_rfl) (fun _ _ _ h => h) (Or.inl ⟨by kernel_rfl, ?y42bf3⟩) hHeld ?r42bf3
          case y42bf3 => (intro wq hSw; go_simp; try rfl)
          simp only [Act.put, List.setIfInBounds_toArray, List.set_cons_zero, List.set_cons_succ]
          refine wpAnyH_take (i := 43) (v := ?_) rfl (by kernel_rfl) (by kernel_rfl) (by kernel_rfl) (fun _ _ _ h => h) (Or.inl ⟨by kernel_rfl, ?y43bf3⟩) hHeld ?r43bf3
          case y43bf3 => (intro wq hSw; go_simp; try rfl)
          simp only [Act.put, List.setIfInBounds_toArray, List.set_cons_zero, List.set_cons_succ]
          refine wpAnyH_take (i := 44) (v := undef) rfl (by kernel_rfl) (by kernel_rfl) (by kernel_rfl) (fun _ _ _ h => h) (Or.inr ⟨by kernel_rfl, rfl⟩) hHeld ?r44bf3
          simp only [Act.put, List.setIfInBounds_toArray, List.set_cons_zero, List.set_cons_succ]
          refine wpAnyH_take (i := 45) (v := undef) rfl (by kernel_rfl) (by kernel_rfl) (by kernel_rfl) (fun _ _ _ h => h) (Or.inr ⟨by kernel_rfl, rfl⟩) hHeld ?r45bf3
          simp only [Act.put, List.setIfInBounds_toArray, List.set_cons_zero, List.set_cons_succ]
          refine wpAnyH_ready (rs := [46]) (by kernel_rfl) (by simp) ?_
          refine AllReadyH.cons rfl (fun K hK => ?_) AllReadyH.nil
          go_simp
          refine hK.out _ _ hHeld (fun _ => ?_)
          clear hK K
          refine wpAnyH_done (by kernel_rfl) ?_ _
          go_wp2_with fail
          go_ret
          exact ⟨ret_bool HF.out.symm, HW.out⟩
        have f3 : decide (y1 < 0) = false := decide_eq_false q3
        have p3 : 0 ≤ y1 := by omega
        clear q3
        refine wpAnyH_take (i := 26) (v := ?_) rfl (by kernel_rfl) (by kernel_rfl) (by kernel_rfl) (fun _ _ _ h => h) (Or.inl ⟨by kernel_rfl, ?y26b⟩) hHeld ?r26b
        case y26b => (intro wq hSw; go_simp; try rfl)
        simp only [Act.put, List.setIfInBounds_toArray, List.set_cons_zero, List.set_cons_succ]
        refine wpAnyH_take (i := 27) (v := ?_) rfl (by kernel_rfl) (by kernel_rfl) (by kernel_rfl) (fun _ _ _ h => h) (Or.inl ⟨by kernel_rfl, ?y27b⟩) hHeld ?r27b
        case y27b => (intro wq hSw; go_simp; try rfl)
        simp only [Act.put, List.setIfInBounds_toArray, List.set_cons_zero, List.set_cons_succ]
        refine wpAnyH_take (i := 28) (v := ?_) rfl (by kernel_rfl) (by kernel_rfl) (by kernel_rfl) (fun _ _ _ h => h) (Or.inl ⟨by kernel_rfl, ?y28b⟩) hHeld ?r28b
        case y28b => (intro wq hSw; go_simp; try rfl)
        simp only [Act.put, List.setIfInBounds_toArray, List.set_cons_zero, List.set_cons_succ]
        refine wpAnyH_take (i := 29) (v := ?_) rfl (by kernel_rfl) (by kernel_rfl) (by kernel_rfl) (fun _ _ _ h => h) (Or.inl ⟨by kernel_rfl, ?y29b⟩) hHeld ?r29b
        case y29b => (intro wq hSw; go_simp; try rfl)
        simp only [Act.put, List.setIfInBounds_toArray, List.set_cons_zero, List.set_cons_succ]
        refine wpAnyH_take (i := 30) (v := ?_) rfl (by kernel_rfl) (by kernel_rfl) (by kernel_rfl) (fun _ _ _ h => h) (Or.inl ⟨by kernel_rfl, ?y30b⟩) hHeld ?r30b
        case y30b => (intro wq hSw; have q1 := hSw.2.1; go_simp; try rfl)
        simp only [Act.put, List.setIfInBounds_toArray, List.set_cons_zero, List.set_cons_succ]
        by_cases q4 : (16384 : Int) < y1
        · have f4 : decide ((16384 : Int) < y1) = true := decide_eq_true q4
          have HF : Hid (rdescsB l = false) := hid_of (NO.out (rdescB_no (Or.inr (Or.inr (Or.inr (Or.inr (Or.inl q4)))))))
          clear NO DE TG1 TN1 HP HX HC
          refine wpAnyH_take (i := 31) (v := ?_) rfl (by kernel_rfl) (by kernel_rfl) (by kernel_rfl) (fun _ _ _ h => h) (Or.inl ⟨by kernel_rfl, ?y31bf4⟩) hHeld ?r31bf4
          case y31bf4 => (intro wq hSw; go_simp; try rfl)
          simp only [Act.put, List.setIfInBounds_toArray, List.set_cons_zero, List.set_cons_succ]
          refine wpAnyH_take (i := 32) (v := ?_) rfl (by kernel_rfl) (by kernel_rfl) (by kernel_rfl) (fun _ _ _ h => h) (Or.inl ⟨by kernel_rfl, ?y32bf4⟩) hHeld ?r32bf4
          case y32bf4 => (intro wq hSw; go_simp; try rfl)
          simp only [Act.put, List.setIfInBounds_toArray, List.set_cons_zero, List.set_cons_succ]
          refine wpAnyH_take (i := 33) (v := ?_) rfl (by kernel_rfl) (by kernel_rfl) (by kernel_rfl) (fun _ _ _ h => h) (Or.inl ⟨by kernel_rfl, ?y33bf4⟩) hHeld ?r33bf4
          case y33bf4 => (intro wq hSw; go_simp; try rfl)
          simp only [Act.put, List.setIfInBounds_toArray, List.set_cons_zero, List.set_cons_succ]
          refine wpAnyH_take (i := 34) (v := undef) rfl (by kernel_rfl) (by kernel_rfl) (by kernel_rfl) (fun _ _ _ h => h) (Or.inr ⟨by kernel_rfl, rfl⟩) hHeld ?r34bf4
          simp only [Act.put, List.setIfInBounds_toArray, List.set_cons_zero, List.set_cons_succ]
          refine wpAnyH_take (i := 35) (v := undef) rfl (by kernel_rfl) (by kernel_rfl) (by kernel_rfl) (fun _ _ _ h => h) (Or.inr ⟨by kernel_rfl, rfl⟩) hHeld ?r35bf4
          simp only [Act.put, List.setIfInBounds_toArray, List.set_cons_zero, List.set_cons_succ]
          refine wpAnyH_take (i := 36) (v := undef) rfl (by kernel_rfl) (by kernel_rfl) (by kernel_rfl) (fun _ _ _ h => h) (Or.inr ⟨by kernel_rfl, rfl⟩) hHeld ?r36bf4
          simp only [Act.put, List.setIfInBounds_toArray, List.set_cons_zero, List.set_cons_succ]
          refine wpAnyH_take (i := 37) (v := undef) rfl (by kernel_rfl) (by kernel_rfl) (by kernel_rfl) (fun _ _ _ h => h) (Or.inr ⟨by kernel_rfl, rfl⟩) hHeld ?r37bf4
          simp only [Act.put, List.setIfInBounds_toArray, List.set_cons_zero, List.set_cons_succ]
          refine wpAnyH_take (i := 38) (v := ?_) rfl (by kernel_rfl) (by kernel_rfl) (by kernel_rfl) (fun _ _ _ h => h) (Or.inl ⟨by kernel_rfl, ?y38bf4⟩) hHeld ?r38bf4
          case y38bf4 => (intro wq hSw; go_simp; try rfl)
          simp only [Act.put, List.setIfInBounds_toArray, List.set_cons_zero, List.set_cons_succ]
          refine wpAnyH_take (i := 39) (v := ?_) rfl (by kernel_rfl) (by kernel_rfl) (by kernel_rfl) (fun _ _ _ h => h) (Or.inl ⟨by kernel_rfl, ?y39bf4⟩) hHeld ?r39bf4
          case y39bf4 => (intro wq hSw; go_simp; try rfl)
          simp only [Act.put, List.setIfInBounds_toArray, List.set_cons_zero, List.set_cons_succ]
          refine wpAnyH_take (i := 40) (v := undef) rfl (by kernel_rfl) (by kernel_rfl) (by kernel_rfl) (fun _ _ _ h => h) (Or.inr ⟨by kernel_rfl, rfl⟩) hHeld ?r40bf4
          simp only [Act.put, List.setIfInBounds_toArray, List.set_cons_zero, List.set_cons_succ]
          refine wpAnyH_take (i := 41) (v := undef) rfl (by kernel_rfl) (by kernel_rfl) (by kernel_rfl) (fun _ _ _ h => h) (Or.inr ⟨by kernel_rfl, rfl⟩) hHeld ?r41bf4
          simp only [Act.put, List.setIfInBounds_toArray, List.set_cons_zero, List.set_cons_succ]
          refine wpAnyH_take (i := 42) (v := ?_) rfl (by kernel_rfl) (by kernel_rfl) (by kernel_rfl) (fun _ _ _ h => h) (Or.inl ⟨by kernel_rfl, ?y42bf4⟩) hHeld ?r42bf4
          case y42bf4 => (intro wq hSw; go_simp; try rfl)
          simp only [Act.put, List.setIfInBounds_toArray, List.set_cons_zero, List.set_cons_succ]
          refine wpAnyH_take (i := 43) (v := ?_) rfl (by kernel_rfl) (by kernel_rfl) (by kernel_rfl) (fun _ _ _ h => h) (Or.inl ⟨by kernel_rfl, ?y43bf4⟩) hHeld ?r43bf4
          case y43bf4 => (intro wq hSw; go_simp; try rfl)
          simp only [Act.put, List.setIfInBounds_toArray, List.set_cons_zero, List.set_cons_succ]
          refine wpAnyH_take (i := 44) (v := undef) rfl (by kernel_rfl) (by kernel_rfl) (by kernel_rfl) (fun _ _ _ h => h) (Or.inr ⟨by kernel_rfl, rfl⟩) hHeld ?r44bf4
          simp only [Act.put, List.setIfInBounds_toArray, List.set_cons_zero, List.set_cons_succ]
          refine wpAnyH_take (i := 45) (v := undef) rfl (by kernel_rfl) (by kernel_rfl) (by kernel_rfl) (fun _ _ _ h => h) (Or.inr ⟨by kernel_rfl, rfl⟩) hHeld ?r45bf4
          simp only [Act.put, List.setIfInBounds_toArray, List.set_cons_zero, List.set_cons_succ]
          refine wpAnyH_ready (rs := [46]) (by kernel_rfl) (by simp) ?_
          refine AllReadyH.cons rfl (fun K hK => ?_) AllReadyH.nil
          go_simp
          refine hK.out _ _ hHeld (fun _ => ?_)
          clear hK K
          refine wpAnyH_done (by kernel_rfl) ?_ _
          go_wp2_with fail
          go_ret
          exact ⟨ret_bool HF.out.symm, HW.out⟩
        have f4 : decide ((16384 : Int) < y1) = false := decide_eq_false q4
        have p4 : y1 ≤ 16384 := by omega
        clear q4
        refine wpAnyH_take (i := 31) (v := ?_) rfl (by kernel_rfl) (by kernel_rfl) (by kernel_rfl) (fun _ _ _ h => h) (Or.inl ⟨by kernel_rfl, ?y31b⟩) hHeld ?r31b
        case y31b => (intro wq hSw; go_simp; try rfl)
        simp only [Act.put, List.setIfInBounds_toArray, List.set_cons_zero, List.set_cons_succ]
        refine wpAnyH_take (i := 32) (v := ?_) rfl (by kernel_rfl) (by kernel_rfl) (by kernel_rfl) (fun _ _ _ h => h) (Or.inl ⟨by kernel_rfl, ?y32b⟩) hHeld ?r32b
        case y32b => (intro wq hSw; go_simp; try rfl)
        simp only [Act.put, List.setIfInBounds_toArray, List.set_cons_zero, List.set_cons_succ]
        refine wpAnyH_take (i := 33) (v := ?_) rfl (by kernel_rfl) (by kernel_rfl) (by kernel_rfl) (fun _ _ _ h => h) (Or.inl ⟨by kernel_rfl, ?y33b⟩) hHeld ?r33b
        case y33b => (intro wq hSw; go_simp; try rfl)
        simp only [Act.put, List.setIfInBounds_toArray, List.set_cons_zero, List.set_cons_succ]
        refine wpAnyH_take (i := 34) (v := ?_) rfl (by kernel_rfl) (by kernel_rfl) (by kernel_rfl) (fun _ _ _ h => h) (Or.inl ⟨by kernel_rfl, ?y34b⟩) hHeld ?r34b
        case y34b => (intro wq hSw; go_simp; try rfl)
        simp only [Act.put, List.setIfInBounds_toArray, List.set_cons_zero, List.set_cons_succ]
        refine wpAnyH_take (i := 35) (v := ?_) rfl (by kernel_rfl) (by kernel_rfl) (by kernel_rfl) (fun _ _ _ h => h) (Or.inl ⟨by kernel_rfl, ?y35b⟩) hHeld ?r35b
        case y35b => (intro wq hSw; have q1 := hSw.2.1; go_simp; try rfl)
        simp only [Act.put, List.setIfInBounds_toArray, List.set_cons_zero, List.set_cons_succ]
        have hmod : y1.tmod 4 = y1 % 4 := Int.tmod_eq_emod_of_nonneg (by omega)
        by_cases q5 : y1 % 4 ≠ 0
        · have f5 : (y1 % 4 != 0) = true := bne_iff_ne.2 q5
          have HF : Hid (rdescsB l = false) := hid_of (NO.out (rdescB_no (Or.inr (Or.inr (Or.inr (Or.inr (Or.inr (Or.inl q5))))))))
          clear NO DE TG1 TN1 HP HX HC
          refine wpAnyH_take (i := 36) (v := ?_) rfl (by kernel_rfl) (by kernel_rfl) (by kernel_rfl) (fun _ _ _ h => h) (Or.inl ⟨by kernel_rfl, ?y36bf5⟩) hHeld ?r36bf5
          case y36bf5 => (intro wq hSw; go_simp; try rfl)
          simp only [Act.put, List.setIfInBounds_toArray, List.set_cons_zero, List.set_cons_succ]
          refine wpAnyH_take (i := 37) (v := ?_) rfl (by kernel_rfl) (by kernel_rfl) (by kernel_rfl) (fun _ _ _ h => h) (Or.inl ⟨by kernel_rfl, ?y37bf5⟩) hHeld ?r37bf5
          case y37bf5 => (intro wq hSw; go_simp; try rfl)
          simp only [Act.put, List.setIfInBounds_toArray, List.set_cons_zero, List.set_cons_succ]
          refine wpAnyH_take (i := 38) (v := ?_) rfl (by kernel_rfl) (by kernel_rfl) (by kernel_rfl) (fun _ _ _ h => h) (Or.inl ⟨by kernel_rfl, ?y38bf5⟩) hHeld ?r38bf5
          case y38bf5 => (intro wq hSw; go_simp; try rfl)
          simp only [Act.put, List.setIfInBounds_toArray, List.set_cons_zero, List.set_cons_succ]
          refine wpAnyH_take (i := 39) (v := ?_) rfl (by kernel_rfl) (by kernel_rfl) (by kernel_rfl) (fun _ _ _ h => h) (Or.inl ⟨by kernel_rfl, ?y39bf5⟩) hHeld ?r39bf5
          case y39bf5 => (intro wq hSw; go_simp; try rfl)
          simp only [Act.put, List.setIfInBounds_toArray, List.set_cons_zero, List.set_cons_succ]
          refine wpAnyH_take (i := 40) (v := undef) rfl (by kernel_rfl) (by kernel_rfl) (by kernel_rfl) (fun _ _ _ h => h) (Or.inr ⟨by kernel_rfl, rfl⟩) hHeld ?r40bf5
          simp only [Act.put, List.setIfInBounds_toArray, List.set_cons_zero, List.set_cons_succ]
          refine wpAnyH_take (i := 41) (v := undef) rfl (by kernel_rfl) (by kernel_rfl) (by kernel_rfl) (fun _ _ _ h => h) (Or.inr ⟨by kernel_rfl, rfl⟩) hHeld ?r41bf5
          simp only [Act.put, List.setIfInBounds_toArray, List.set_cons_zero, List.set_cons_succ]
          refine wpAnyH_take (i := 42) (v := ?_) rfl (by kernel_rfl) (by kernel_rfl) (by kernel_rfl) (fun _ _ _ h => h) (Or.inl ⟨by kernel_rfl, ?y42bf5⟩) hHeld ?r42bf5
          case y42bf5 => (intro wq hSw; go_simp; try rfl)
          simp only [Act.put, List.setIfInBounds_toArray, List.set_cons_zero, List.set_cons_succ]
          refine wpAnyH_take (i := 43) (v := ?_) rfl (by kernel_rfl) (by kernel_rfl) (by kernel_rfl) (fun _ _ _ h => h) (Or.inl ⟨by kernel_rfl, ?y43bf5⟩) hHeld ?r43bf5
          case y43bf5 => (intro wq hSw; go_simp; try rfl)
          simp only [Act.put, List.setIfInBounds_toArray, List.set_cons_zero, List.set_cons_succ]
          refine wpAnyH_take (i := 44) (v := undef) rfl (by kernel_rfl) (by kernel_rfl) (by kernel_rfl) (fun _ _ _ h => h) (Or.inr ⟨by kernel_rfl, rfl⟩) hHeld ?r44bf5
          simp only [Act.put, List.setIfInBounds_toArray, List.set_cons_zero, List.set_cons_succ]
          refine wpAnyH_take (i := 45) (v := undef) rfl (by kernel_rfl) (by kernel_rfl) (by kernel_rfl) (fun _ _ _ h => h) (Or.inr ⟨by kernel_rfl, rfl⟩) hHeld ?r45bf5
          simp only [Act.put, List.setIfInBounds_toArray, List.set_cons_zero, List.set_cons_succ]
          refine wpAnyH_ready (rs := [46]) (by kernel_rfl) (by simp) ?_
          refine AllReadyH.cons rfl (fun K hK => ?_) AllReadyH.nil
          go_simp
          refine hK.out _ _ hHeld (fun _ => ?_)
          clear hK K
          refine wpAnyH_done (by kernel_rfl) ?_ _
          go_wp2_with fail
          go_ret
          exact ⟨ret_bool HF.out.symm, HW.out⟩
        have f5 : (y1 % 4 != 0) = false := bne_eq_false_iff_eq.2 (Decidable.not_not.1 q5)
        clear q5
        refine wpAnyH_take (i := 36) (v := ?_) rfl (by kernel_rfl) (by kernel_rfl) (by kernel_rfl) (fun _ _ _ h => h) (Or.inl ⟨by kernel_rfl, ?y36b⟩) hHeld ?r36b
        case y36b => (intro wq hSw; go_simp; try rfl)
        simp only [Act.put, List.setIfInBounds_toArray, List.set_cons_zero, List.set_cons_succ]
        refine wpAnyH_take (i := 37) (v := ?_) rfl (by kernel_rfl) (by kernel_rfl) (by kernel_rfl) (fun _ _ _ h => h) (Or.inl ⟨by kernel_rfl, ?y37b⟩) hHeld ?r37b
        case y37b => (intro wq hSw; go_simp; try rfl)
        simp only [Act.put, List.setIfInBounds_toArray, List.set_cons_zero, List.set_cons_succ]
        refine wpAnyH_take (i := 38) (v := ?_) rfl (by kernel_rfl) (by kernel_rfl) (by kernel_rfl) (fun _ _ _ h => h) (Or.inl ⟨by kernel_rfl, ?y38b⟩) hHeld ?r38b
        case y38b => (intro wq hSw; go_simp; try rfl)
        simp only [Act.put, List.setIfInBounds_toArray, List.set_cons_zero, List.set_cons_succ]
        refine wpAnyH_take (i := 39) (v := ?_) rfl (by kernel_rfl) (by kernel_rfl) (by kernel_rfl) (fun _ _ _ h => h) (Or.inl ⟨by kernel_rfl, ?y39b⟩) hHeld ?r39b
        case y39b => (intro wq hSw; go_simp; try rfl)
        simp only [Act.put, List.setIfInBounds_toArray, List.set_cons_zero, List.set_cons_succ]
        refine wpAnyH_take (i := 40) (v := ?_) rfl (by kernel_rfl) (by kernel_rfl) (by kernel_rfl) (fun _ _ _ h => h) (Or.inl ⟨by kernel_rfl, ?y40b⟩) hHeld ?r40b
        case y40b => (intro wq hSw; go_simp; try rfl)
        simp only [Act.put, List.setIfInBounds_toArray, List.set_cons_zero, List.set_cons_succ]
        by_cases q6 : (tn : Int) < 1
        · have f6 : decide ((tn : Int) < 1) = true := decide_eq_true q6
          have HF : Hid (rdescsB l = false) := hid_of (NO.out (rdescB_no (Or.inr (Or.inr (Or.inr (Or.inr (Or.inr (Or.inr (Or.inl (by have := TN1.out; show (tl.length : Int) < 1; omega))))))))))
          clear NO DE TG1 TN1 HP HX HC
          refine wpAnyH_take (i := 41) (v := ?_) rfl (by kernel_rfl) (by kernel_rfl) (by kernel_rfl) (fun _ _ _ h => h) (Or.inl ⟨by kernel_rfl, ?y41bf6⟩) hHeld ?r41bf6
          case y41bf6 => (intro wq hSw; go_simp; try rfl)
          simp only [Act.put, List.setIfInBounds_toArray, List.set_cons_zero, List.set_cons_succ]
          refine wpAnyH_take (i := 42) (v := ?_) rfl (by kernel_rfl) (by kernel_rfl) (by kernel_rfl) (fun _ _ _ h => h) (Or.inl ⟨by kernel_rfl, ?y42bf6⟩) hHeld ?r42bf6
          case y42bf6 => (intro wq hSw; go_simp; try rfl)
          simp only [Act.put, List.setIfInBounds_toArray, List.set_cons_zero, List.set_cons_succ]
          refine wpAnyH_take (i := 43) (v := ?_) rfl (by kernel_rfl) (by kernel_rfl) (by kernel_rfl) (fun _ _ _ h => h) (Or.inl ⟨by kernel_rfl, ?y43bf6⟩) hHeld ?r43bf6
          case y43bf6 => (intro wq hSw; go_simp; try rfl)
          simp only [Act.put, List.setIfInBounds_toArray, List.set_cons_zero, List.set_cons_succ]
          refine wpAnyH_take (i := 44) (v := undef) rfl (by kernel_rfl) (by kernel_rfl) (by kernel_rfl) (fun _ _ _ h => h) (Or.inr ⟨by kernel_rfl, rfl⟩) hHeld ?r44bf6
          simp only [Act.put, List.setIfInBounds_toArray, List.set_cons_zero, List.set_cons_succ]
          refine wpAnyH_take (i := 45) (v := undef) rfl (by kernel_rfl) (by kernel_rfl) (by kernel_rfl) (fun _ _ _ h => h) (Or.inr ⟨by kernel_rfl, rfl⟩) hHeld ?r45bf6
          simp only [Act.put, List.setIfInBounds_toArray, List.set_cons_zero, List.set_cons_succ]
          refine wpAnyH_ready (rs := [46]) (by kernel_rfl) (by simp) ?_
          refine AllReadyH.cons rfl (fun K hK => ?_) AllReadyH.nil
          go_simp
          refine hK.out _ _ hHeld (fun _ => ?_)
          clear hK K
          refine wpAnyH_done (by kernel_rfl) ?_ _
          go_wp2_with fail
          go_ret
          exact ⟨ret_bool HF.out.symm, HW.out⟩
        have f6 : decide ((tn : Int) < 1) = false := decide_eq_false q6
        refine wpAnyH_take (i := 41) (v := ?_) rfl (by kernel_rfl) (by kernel_rfl) (by kernel_rfl) (fun _ _ _ h => h) (Or.inl ⟨by kernel_rfl, ?y41b⟩) hHeld ?r41b
        case y41b => (intro wq hSw; go_simp; try rfl)
        simp only [Act.put, List.setIfInBounds_toArray, List.set_cons_zero, List.set_cons_succ]
        refine wpAnyH_take (i := 42) (v := ?_) rfl (by kernel_rfl) (by kernel_rfl) (by kernel_rfl) (fun _ _ _ h => h) (Or.inl ⟨by kernel_rfl, ?y42b⟩) hHeld ?r42b
        case y42b => (intro wq hSw; go_simp; try rfl)
        simp only [Act.put, List.setIfInBounds_toArray, List.set_cons_zero, List.set_cons_succ]
        refine wpAnyH_take (i := 43) (v := ?_) rfl (by kernel_rfl) (by kernel_rfl) (by kernel_rfl) (fun _ _ _ h => h) (Or.inl ⟨by kernel_rfl, ?y43b⟩) hHeld ?r43b
        case y43b => (intro wq hSw; go_simp; try rfl)
        simp only [Act.put, List.setIfInBounds_toArray, List.set_cons_zero, List.set_cons_succ]
        refine wpAnyH_take (i := 44) (v := ?_) rfl (by kernel_rfl) (by kernel_rfl) (by kernel_rfl) (fun _ _ _ h => h) (Or.inl ⟨by kernel_rfl, ?y44b⟩) hHeld ?r44b
        case y44b => (intro wq hSw; go_simp; try rfl)
        simp only [Act.put, List.setIfInBounds_toArray, List.set_cons_zero, List.set_cons_succ]
        by_cases q7 : (4 : Int) < (tn : Int)
        · have f7 : decide ((4 : Int) < (tn : Int)) = true := decide_eq_true q7
          have HF : Hid (rdescsB l = false) := hid_of (NO.out (rdescB_no (Or.inr (Or.inr (Or.inr (Or.inr (Or.inr (Or.inr (Or.inr (Or.inl (by have := TN1.out; show (4 : Int) < (tl.length : Int); omega)))))))))))
          clear NO DE TG1 TN1 HP HX HC
          refine wpAnyH_ready (rs := [45]) (by kernel_rfl) (by simp) ?_
          refine AllReadyH.cons rfl (fun K hK => ?_) AllReadyH.nil
          go_simp
          refine hK.out _ _ hHeld (fun _ => ?_)
          clear hK K
          refine wpAnyH_ready (rs := [46]) (by kernel_rfl) (by simp) ?_
          refine AllReadyH.cons rfl (fun K hK => ?_) AllReadyH.nil
          go_simp
          refine hK.out _ _ hHeld (fun _ => ?_)
          clear hK K
          refine wpAnyH_done (by kernel_rfl) ?_ _
          go_wp2_with fail
          go_ret
          exact ⟨ret_bool HF.out.symm, HW.out⟩
        have f7 : decide ((4 : Int) < (tn : Int)) = false := decide_eq_false q7
        refine wpAnyH_ready (rs := [45]) (by kernel_rfl) (by simp) ?_
        refine AllReadyH.cons rfl (fun K hK => ?_) AllReadyH.nil
        go_simp
        refine hK.out _ _ hHeld (fun _ => ?_)
        clear hK K
        refine wpAnyH_ready (rs := [46]) (by kernel_rfl) (by simp) ?_
        refine AllReadyH.cons rfl (fun K hK => ?_) AllReadyH.nil
        go_simp
        refine hK.out _ _ hHeld (fun _ => ?_)
        clear hK K
        refine wpAnyH_done (by kernel_rfl) ?_ _
        obtain ⟨tb, tof, rfl, tcl⟩ := TG1.out (by omega)
        clear TG1
        obtain ⟨m, rfl⟩ : ∃ m, tn = m + 1 := ⟨tn - 1, by omega⟩
        have TCL := hid_of tcl
        have HWS : Hid (∀ X : World, (wr.alloc (.cells #[.int .i64 y0, .int .i64 y1, .slice (some ⟨tb, tof, none⟩) (m + 1) tc] 54)).heap.size ≤ X.heap.size → Below (wr.heap.size + 1) (wr.alloc (.cells #[.int .i64 y0, .int .i64 y1, .slice (some ⟨tb, tof, none⟩) (m + 1) tc] 54)) X → X.cell? ⟨wr.heap.size, 0, none⟩ = some (.int .i64 y0) ∧ X.cell? ⟨wr.heap.size, 2, none⟩ = some (.slice (some ⟨tb, tof, none⟩) (m + 1) tc)) := fun X _ hX => by
          have hb : X.heap[wr.heap.size]? = some (.cells #[.int .i64 y0, .int .i64 y1, .slice (some ⟨tb, tof, none⟩) (m + 1) tc] 54 (0, 0)) := (hX.block wr.heap.size (by omega)).trans (blk_new _ _)
          exact ⟨blk_cell hb 0, blk_cell hb 2⟩
        have W0 : Hid (Below (wr.heap.size + 1) (wr.alloc (.cells #[.int .i64 y0, .int .i64 y1, .slice (some ⟨tb, tof, none⟩) (m + 1) tc] 54)) (wr.alloc (.cells #[.int .i64 y0, .int .i64 y1, .slice (some ⟨tb, tof, none⟩) (m + 1) tc] 54)).drew) := hid_of (Below.drew (Below.refl _ _))
        have g1 : IntKind.i64.wrap (((m + 1 : Nat) : Int) - 1) = (m : Int) := by rw [IntWalk.i64_left, IntWalk.wrap64_in] <;> omega
        have g2 : IntKind.i64.wrap (m : Int) = (m : Int) := by rw [IntWalk.i64_left, IntWalk.wrap64_in] <;> omega
        have g3 : (0 : Int) ≤ (m : Int) := by omega
        have g4 : (m : Int) < ((m + 1 : Nat) : Int) := by omega
        have g5 : (m : Int) < (m : Int) + 1 := by omega
        clear tcl
        obtain ⟨wo, rfl⟩ : ∃ wo, wo = wr := ⟨_, rfl⟩
        clear hHeld hS
        all_goals
          go_wp2_with fail
          go_loopg [6] (m + 1) (fun hf s6 wy => ∃ j : Nat, s6 = .int .i64 (j : Int) ∧ j + hf = m + 1 ∧ Hid (Below (wo.heap.size + 1) (wo.alloc (.cells #[.int .i64 y0, .int .i64 y1, .slice (some ⟨tb, tof, none⟩) (m + 1) tc] 54)) wy) ∧ Hid (∀ q, q < j → cb (tl.getD q 0) = true))
          case atStart => exact ⟨0, rfl, by omega, W0.out, fun q hq => by omega⟩
          case round =>
            clear W0
            obtain ⟨j, rfl, hj, HJ, HQ⟩ := hrel
            have HWJ : Hid (Below w.heap.size w wr) := hid_of (HB.out.trans ((((Below.refl wo.heap.size wo).alloc (Nat.le_refl _) _).trans (HJ.out.mono (by omega))).mono HB.out.size))
            obtain ⟨c0, c2⟩ := HWS.out wr HJ.out.size HJ.out
            by_cases hjm : j < m + 1
            · obtain ⟨h', rfl⟩ : ∃ h', gk = h' + 1 := ⟨gk - 1, by omega⟩
              have dj : decide ((j : Int) < ((m + 1 : Nat) : Int)) = true := decide_eq_true (by omega)
              have dj2 : decide ((j : Int) < (m : Int) + 1) = true := decide_eq_true (by omega)
              have dj3 : (0 : Int) ≤ (j : Int) := by omega
              have dj4 : (j : Int) < (m : Int) + 1 := by omega
              have ct := TCL.out j hjm wr HWJ.out
              generalize hx : tl.getD j 0 = x at ct
              have HXJ := hid_of hx
              clear hx
              have DJ : Hid (Calls Try.prog 94 #[.slice (some ⟨b, off, none⟩) sn sc, .int .i64 x] wr fun e w' => e = .returned (.bool (cb x)) ∧ w' = wr) := hid_of (DE.out x wr HWJ.out)
              rcases bool_or (cb x) with hcx | hcx
              rotate_left
              · have HF : Hid (rdescsB l = false) := hid_of (NO.out (rdescB_no (Or.inr (Or.inr (Or.inr (Or.inr (Or.inr (Or.inr (Or.inr (Or.inr (Or.inl ⟨j, by rw [← TN1.out]; exact hjm, by rw [← HC.out]; show cb (tl.getD j 0) = false; rw [HXJ.out]; exact hcx⟩)))))))))))
                go_wp2_with (go_at_call 94; refine DJ.out.mono ?_; rintro e w5 ⟨rfl, hw5⟩; rw [hw5, hcx]; clear hw5)
                go_ret
                exact ⟨ret_bool HF.out.symm, HWJ.out⟩
              · have HQ2 : Hid (∀ q, q < j + 1 → cb (tl.getD q 0) = true) := hid_of fun q hq => by
                  rcases Nat.lt_or_ge q j with u | u
                  · exact HQ.out q u
                  · have : q = j := by omega
                    rw [this, HXJ.out]; exact hcx
                go_wp2_with (go_at_call 94; refine DJ.out.mono ?_; rintro e w5 ⟨rfl, hw5⟩; rw [hw5, hcx]; clear hw5)
                go_roundg h'
                case measure => omega
                case rel => exact ⟨j + 1, by simp, by omega, HJ.out, HQ2.out⟩
            · have dj : decide ((j : Int) < ((m + 1 : Nat) : Int)) = false := decide_eq_false (by omega)
              have dj2 : decide ((j : Int) < (m : Int) + 1) = false := decide_eq_false (by omega)
              have cl := TCL.out m (by omega) wr HWJ.out
              have HTL : Hid (tl.getD (tl.length - 1) 0 = tl.getD m 0) := hid_of (by rw [← TN1.out, Nat.add_sub_cancel])
              generalize hx : tl.getD m 0 = x at cl HTL
              clear hx
              rcases bool_or (x != y0) with hne | hne
              rotate_left
              · have HY2 : Hid (rdescB l (k + 1) (l.getD (k + 1) (0, 0, [])) = true) := hid_of (by
                  rw [← HX.out]
                  exact rdescB_yes (by show 8 ≤ y0; omega) (by show y0 < 200; omega) HZ.out (by show 0 ≤ y1; omega) (by show y1 ≤ 16384; omega) (by show y1 % 4 = 0; simpa using f5) (by show 0 < (tl.length : Int); have := TN1.out; omega) (by show (tl.length : Int) ≤ 4; have := TN1.out; omega) (fun q hq => by rw [← HC.out]; exact HQ.out q (by have := TN1.out; have hq : q < tl.length := hq; omega)) (by show tl.getD (tl.length - 1) 0 = y0; rw [HTL.out]; simpa using hne))
                have HP2 : Hid (∀ q, q < k + 1 + 1 → rdescB l q (l.getD q (0, 0, [])) = true) := hid_of fun q hq => by
                  rcases Nat.lt_or_ge q (k + 1) with u | u
                  · exact HP.out q u
                  · have : q = k + 1 := by omega
                    rw [this]; exact HY2.out
                clear HY2 HP HQ
                go_wp2
                go_region
                all_goals
                  go_wp2
                  go_roundg g'
                  case measure => omega
                  case rel => exact ⟨k + 1 + 1, by simp, by omega, HWJ.out.drew, HP2.out⟩
              · have HF : Hid (rdescsB l = false) := hid_of (NO.out (rdescB_no (Or.inr (Or.inr (Or.inr (Or.inr (Or.inr (Or.inr (Or.inr (Or.inr (Or.inr (by show tl.getD (tl.length - 1) 0 ≠ y0; rw [HTL.out]; simpa using hne))))))))))))
                clear HP HQ
                go_wp2
                go_region
                all_goals
                  go_wp2
                  go_ret
                  exact ⟨ret_bool HF.out.symm, HWJ.out.drew⟩
    · have d1 : decide ((i : Int) < (sn : Int)) = false := decide_eq_false (by omega)
      have HX : Hid (rdescsB l = true) := hid_of (List.all_eq_true.2 fun j hj => HP.out j (by have := List.mem_range.1 hj; rw [← HN.out] at this; omega))
      go_wp2
      go_ret
      exact ⟨ret_bool HX.out.symm, HB.out⟩
set_option maxRecDepth 20000 in
theorem rdescs_none (w : World) (a : Option Addr) (sc : Nat) : Calls Try.prog 83 #[.slice a 0 sc] w fun e w' => e = .returned (.bool (rdescsB [])) ∧ Below w.heap.size w w' := by
  have hx : rdescsB [] = true := rfl
  rw [hx]
  go_enter Try.func83, Try.ntmps83
  go_wp2
  go_loopg [3] 0 (fun gf s3 wx => s3 = .int .i64 0 ∧ gf = 0 ∧ wx = w)
  case atStart => exact ⟨rfl, rfl, rfl⟩
  case round =>
    obtain ⟨rfl, hg, hww⟩ := hrel
    obtain rfl := hww.symm
    go_wp2
    go_ret
    exact ⟨rfl, Below.refl _ _⟩
theorem rdescs_any (w : World) (s : Sl) (l : List ((Int × Int × List Int) × Sl)) (h : RdV w 3 s l.length (flat dEnc l)) (ht : ∀ p ∈ l, RdV w 1 p.2 p.1.2.2.length (p.1.2.2.map (Value.int .i64))) : Calls Try.prog 83 #[.slice s.a s.n s.c] w fun e w' => e = .returned (.bool (rdescsB (l.map (·.1)))) ∧ Below w.heap.size w w' := by
  have hn := h.len
  by_cases h0 : l.length = 0
  · have : l = [] := List.eq_nil_of_length_eq_zero h0
    subst this
    rw [hn]
    exact rdescs_none w s.a s.c
  · obtain ⟨b, off, ha⟩ : ∃ b off, s.a = some ⟨b, off, none⟩ := by
      rcases h.at_ with e | ⟨g, off, e, _⟩
      · exact absurd e h0
      · exact ⟨g, off, e⟩
    have hgl : ∀ i, i < l.length → (l.map (·.1)).getD i (0, 0, []) = (l.getD i d0).1 := fun i _ => getD_fst l i
    have hmem : ∀ i, i < l.length → l.getD i d0 ∈ l := fun i hi => by rw [getD_at l d0 i hi]; exact List.getElem_mem hi
    have hmm : (l.map (·.1)).map (·.1) = l.map (·.1.1) := by rw [List.map_map]; rfl
    rw [ha]
    refine rdescs_walk w b off s.n s.c (l.map (·.1)) (fun i => (l.getD i d0).2) (by have := h.most; omega) (hid_of (by rw [List.length_map]; exact hn)) (fun t => (l.map (·.1.1)).contains t) (hid_of fun t => by rw [hmm]) (hid_of fun i hi Y hY => ?_) (hid_of fun i hi => ?_) (hid_of fun i hi hp => ?_) (hid_of fun t X hX => ?_)
    · rw [List.length_map] at hi
      rw [hgl i hi]
      obtain ⟨b2, off2, ha2, hc⟩ := elk0 h (fun _ => rfl) d0 i hi
      rw [ha] at ha2
      injection ha2 with ha2; injection ha2 with h3 h4 _
      subst h3; subst h4
      exact ⟨hc Y hY 0 (by omega), hc Y hY 1 (by omega), hc Y hY 2 (by omega)⟩
    · rw [List.length_map] at hi
      rw [hgl i hi]
      exact (ht _ (hmem i hi)).len
    · rw [List.length_map] at hi
      rw [hgl i hi]
      have hr := ht _ (hmem i hi)
      have hrl := hr.len
      have hp2 : 0 < (l.getD i d0).1.2.2.length := by rw [← hrl]; exact hp
      obtain ⟨g, o2, e1, e2⟩ := row_at hr 0 hp2
      refine ⟨g, o2, e1, fun j hj Y hY => ?_⟩
      have hj2 : j < (l.getD i d0).1.2.2.length := by rw [← hrl]; exact hj
      rw [getD_at _ _ j hj2]
      exact e2 j hj2 Y hY
    · have := rdesc_any X s l (h.below hX) t
      rw [ha] at this
      exact this
end Go.Proofs.Ytepgifapepaheaa
