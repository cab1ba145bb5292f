/-
  Layer 11: whether a pointer extends another; whether a record or a pointer does; in one of some ways.
-/
import Derived.Test.YtgkfnfilomjphaaDoorVpb
namespace Go.Proofs.YtgkfnfilomjphaaDoor
set_option linter.unusedVariables false
set_option linter.unusedSimpArgs false
open Go.ChangeShapes Go.WideShapes Go.ChangeAt Go.RowKit Go.Shelf
attribute [local go_sem ↓] ldQ_seal stQ_seal

def ptB (T : List Tt) (i j : Int) : Bool := (isB T i 11 && isB T j 11) && (decide (i = j) || recB T (tyD T i).el (tyD T j).el)
def exB (T : List Tt) (i j : Int) : Bool := recB T i j || ptB T i j
theorem isB_hasB {T : List Tt} {i f : Int} (h : isB T i f = true) : hasB T i = true := by unfold isB at h; simp only [Bool.and_eq_true] at h; exact h.1
/-- A pair in a box. -/
theorem pair_box (w : World) (b : Nat) (i j : Int) : Hid (∀ X, Below (w.alloc (.cells (pE b i j) 62)).heap.size (w.alloc (.cells (pE b i j) 62)) X → (ldT 62 ⟨w.heap.size, 0, none⟩).run Tryd.prog X = .ok (.agg (pE b i j)) X ∧ X.cell? ⟨w.heap.size, 1, none⟩ = some (.int .i64 i) ∧ X.cell? ⟨w.heap.size, 2, none⟩ = some (.int .i64 j) ∧ w.heap.size < X.heap.size) := hid_of fun X hX => by
  have hB := (BA.new w 62 (pE b i j)).below hX
  exact ⟨ldT_run hB Tryd.underlying62 rfl (by kernel_rfl), hB.cell 1, hB.cell 2, hB.lt⟩
set_option maxHeartbeats 8000000 in
theorem pointers_any (w : World) (b : Nat) (c : Rc) (L T : List Tt) (A : List Int) (hr : RwR w b c L T A) (hg : Good T) (i j : Int) : Calls Tryd.prog 38 #[.agg (pE b i j)] w fun e w' => e = .returned (.bool (ptB T i j)) ∧ Below w.heap.size w w' := by
  obtain ⟨W, hW⟩ : ∃ W, W = w.alloc (.cells (pE b i j) 62) := ⟨_, rfl⟩
  have hb : Below w.heap.size w W := by rw [hW]; exact (Below.refl _ _).alloc (Nat.le_refl _) _
  have PB := pair_box w b i j
  rw [← hW] at PB
  have HB := hid_of hb
  have HA : Hid (∀ X, Below W.heap.size W X → Calls Tryd.prog 41 #[.agg (pE b i j), .int .i64 11, .int .i64 11] X fun e w' => e = .returned (.bool (isB T i 11 && isB T j 11)) ∧ Below X.heap.size X w') := hid_of fun X hX => are_any X b c L T A ((hr.below hb).below hX) i j 11 11
  have HE : Hid (isB T i 11 = true → isB T j 11 = true → ∀ X, Below W.heap.size W X → Calls Tryd.prog 42 #[.agg (pE b i j)] X fun e w' => e = .returned (.agg (pE b (tyD T i).el (tyD T j).el)) ∧ Below X.heap.size X w') := hid_of fun h1 h2 X hX => elems_any X b c L T A ((hr.below hb).below hX) i j (isB_hasB h1) (isB_hasB h2)
  have HC : Hid (∀ X, Below W.heap.size W X → Calls Tryd.prog 37 #[.agg (pE b (tyD T i).el (tyD T j).el)] X fun e w' => e = .returned (.bool (recB T (tyD T i).el (tyD T j).el)) ∧ Below X.heap.size X w') := hid_of fun X hX => records_any X b c L T A ((hr.below hb).below hX) hg _ _
  obtain ⟨ld0, _, _, _⟩ := PB.out W (Below.refl _ _)
  unfold ptB
  clear hr hg hb
  cases h1 : (isB T i 11 && isB T j 11)
  · rw [h1] at HA
    rw [Bool.false_and]
    clear h1
    unfold pE at HA hW ld0 ⊢
    rw [hW] at ld0
    go_enter Tryd.func38, Tryd.ntmps38
    go_wp2_with (rw [← hW]; go_at_call 41; refine (HA.out _ (Below.refl _ _)).mono ?_; rintro e w1 ⟨rfl, hB1⟩)
    go_ret
    exact ⟨rfl, HB.out.trans (hB1.mono HB.out.size)⟩
  · rw [h1] at HA
    rw [Bool.true_and]
    simp only [Bool.and_eq_true] at h1
    obtain ⟨a1, a2⟩ := h1
    have HE2 := hid_of (HE.out a1 a2)
    clear a1 a2 HE
    by_cases hij : i = j
    · rw [decide_eq_true hij, Bool.true_or]
      have e1 : (i == j) = true := by simpa using hij
      clear hij
      unfold pE at HA hW ld0 ⊢
      rw [hW] at ld0
      go_enter Tryd.func38, Tryd.ntmps38
      go_wp2_with (rw [← hW]; go_at_call 41; refine (HA.out _ (Below.refl _ _)).mono ?_; rintro e w1 ⟨rfl, hB1⟩; obtain ⟨ld1, p1, p2, lt1⟩ := PB.out _ hB1; have HB1 := hid_of hB1; clear hB1)
      go_ret
      exact ⟨rfl, HB.out.trans (HB1.out.mono HB.out.size)⟩
    · rw [decide_eq_false hij, Bool.false_or]
      have e1 : (i == j) = false := by simpa using hij
      clear hij
      generalize (tyD T i).el = ei at *
      generalize (tyD T j).el = ej at *
      generalize recB T ei ej = rr at *
      unfold pE at HA hW ld0 HE2 HC PB ⊢
      rw [hW] at ld0
      go_enter Tryd.func38, Tryd.ntmps38
      go_wp2_with (first
        | (have hx := B2; clear hx; go_at_call 37; refine (HC.out _ B2.out).mono ?_; rintro e w3 ⟨rfl, hB3⟩; have B3 := hid_of (B2.out.trans (hB3.mono B2.out.size)); clear hB3)
        | (have hx := B1; clear hx; go_at_call 42; refine (HE2.out _ B1.out).mono ?_; rintro e w2 ⟨rfl, hB2⟩; have B2 := hid_of (B1.out.trans (hB2.mono B1.out.size)); clear hB2)
        | (rw [← hW]; go_at_call 41; refine (HA.out _ (Below.refl _ _)).mono ?_; rintro e w1 ⟨rfl, hB1⟩; obtain ⟨ld1, p1, p2, lt1⟩ := PB.out _ hB1; have B1 := hid_of hB1; clear hB1))
      go_ret
      exact ⟨rfl, HB.out.trans (B3.out.mono HB.out.size)⟩
set_option maxHeartbeats 8000000 in
theorem extends_any (w : World) (b : Nat) (c : Rc) (L T : List Tt) (A : List Int) (hr : RwR w b c L T A) (hg : Good T) (i j : Int) : Calls Tryd.prog 22 #[.agg (pE b i j)] w fun e w' => e = .returned (.bool (exB T i j)) ∧ Below w.heap.size w w' := by
  obtain ⟨W, hW⟩ : ∃ W, W = w.alloc (.cells (pE b i j) 62) := ⟨_, rfl⟩
  have hb : Below w.heap.size w W := by rw [hW]; exact (Below.refl _ _).alloc (Nat.le_refl _) _
  have PB := pair_box w b i j
  rw [← hW] at PB
  have HB := hid_of hb
  have HA : Hid (∀ X, Below W.heap.size W X → Calls Tryd.prog 37 #[.agg (pE b i j)] X fun e w' => e = .returned (.bool (recB T i j)) ∧ Below X.heap.size X w') := hid_of fun X hX => records_any X b c L T A ((hr.below hb).below hX) hg i j
  have HC : Hid (∀ X, Below W.heap.size W X → Calls Tryd.prog 38 #[.agg (pE b i j)] X fun e w' => e = .returned (.bool (ptB T i j)) ∧ Below X.heap.size X w') := hid_of fun X hX => pointers_any X b c L T A ((hr.below hb).below hX) hg i j
  obtain ⟨ld0, _, _, _⟩ := PB.out W (Below.refl _ _)
  unfold exB
  clear hr hg hb
  cases h1 : recB T i j
  · rw [h1] at HA
    rw [Bool.false_or]
    clear h1
    generalize ptB T i j = rr at *
    unfold pE at HA hW ld0 HC PB ⊢
    rw [hW] at ld0
    go_enter Tryd.func22, Tryd.ntmps22
    go_wp2_with (first
      | (have hx := B1; clear hx; go_at_call 38; refine (HC.out _ B1.out).mono ?_; rintro e w2 ⟨rfl, hB2⟩; have B2 := hid_of (B1.out.trans (hB2.mono B1.out.size)); clear hB2)
      | (rw [← hW]; go_at_call 37; refine (HA.out _ (Below.refl _ _)).mono ?_; rintro e w1 ⟨rfl, hB1⟩; obtain ⟨ld1, p1, p2, lt1⟩ := PB.out _ hB1; have B1 := hid_of hB1; clear hB1))
    go_ret
    exact ⟨rfl, HB.out.trans (B2.out.mono HB.out.size)⟩
  · rw [h1] at HA
    rw [Bool.true_or]
    clear h1
    unfold pE at HA hW ld0 PB ⊢
    rw [hW] at ld0
    go_enter Tryd.func22, Tryd.ntmps22
    go_wp2_with (rw [← hW]; go_at_call 37; refine (HA.out _ (Below.refl _ _)).mono ?_; rintro e w1 ⟨rfl, hB1⟩)
    go_ret
    exact ⟨rfl, HB.out.trans (hB1.mono HB.out.size)⟩
end Go.Proofs.YtgkfnfilomjphaaDoor
