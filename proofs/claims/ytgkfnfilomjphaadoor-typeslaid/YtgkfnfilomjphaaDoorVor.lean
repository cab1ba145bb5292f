/-
  Layer 11: extending is an order: plain.
-/
import Derived.Test.YtgkfnfilomjphaaDoorVre
import Derived.Test.YtgkfnfilomjphaaDoorVpt
namespace Go.Proofs.YtgkfnfilomjphaaDoor
set_option linter.unusedVariables false
set_option linter.unusedSimpArgs false

def fitB (L : List Tt) (i j : Int) : Bool := readB L && (hasB L i && (hasB L j && exB L i j))
/-- A row is one whose records each extend one that stands ahead of it. -/
theorem read_inv {L : List Tt} (h : readB L = true) : Inv L := by
  unfold readB at h
  simp only [Bool.and_eq_true, List.all_eq_true, List.mem_range] at h
  have key : ∀ n, n ≤ L.length → Inv (L.take n) := by
    intro n
    induction n with
    | zero => intro _; simpa using inv_nil
    | succ n ih =>
      intro hn
      have hi := ih (by omega)
      have ho := h.2 n (by omega)
      have hlt : n < L.length := by omega
      have hl : (L.take n).length = n := by rw [List.length_take]; omega
      unfold okN at ho
      rw [List.getElem?_eq_getElem hlt] at ho
      dsimp only at ho
      unfold okC at ho
      cases hm : madeC L (L.take n) (alL (L.take n)) n L[n] with
      | none => rw [hm] at ho; cases ho
      | some r =>
        obtain ⟨m, e⟩ := r
        rw [hm] at ho
        simp only [Bool.and_eq_true, decide_eq_true_eq] at ho
        obtain ⟨rfl, hs⟩ := ho
        have h2 := made_inv (L := L) (t := L[n]) (m := m) hi (by rw [hl]; exact hm)
        have e1 : L.take (n + 1) = L.take n ++ [L[n]] := by rw [List.take_add_one, List.getElem?_eq_getElem hlt]; rfl
        rw [e1]
        refine inv_ct h2 ?_
        rw [List.map_append, List.map_append, List.map_singleton, List.map_singleton, ct_eq hs]
  have := key L.length (Nat.le_refl _)
  rwa [List.take_length] at this
theorem up_le {T : List Tt} (hg : Good T) : ∀ (n : Nat) (i : Int), i.toNat ≤ n → (i = 0 ∨ isB T i 10 = true) → ∀ j ∈ upA T i, j ≤ i ∧ ∀ k ∈ upA T j, k ∈ upA T i
  | n, i, hn, hi, j, hj => by
    by_cases h0 : i = 0
    · rw [h0, upA_zero] at hj
      cases hj
    · have hb := hi.resolve_left h0
      have hs := upA_step hg hb h0
      obtain ⟨g0, g1, g2⟩ := hg i hb
      rw [hs] at hj ⊢
      rcases List.mem_cons.1 hj with rfl | hj
      · exact ⟨Int.le_refl _, fun k hk => by rwa [hs] at hk⟩
      · cases n with
        | zero => omega
        | succ n =>
          obtain ⟨h1, h2⟩ := up_le hg n (tyD T i).bs (by omega) g2 j hj
          exact ⟨by omega, fun k hk => List.mem_cons_of_mem _ (h2 k hk)⟩
theorem recB_le {T : List Tt} (hg : Good T) {i j : Int} (h : recB T i j = true) : j ≤ i := by
  unfold recB at h
  simp only [Bool.and_eq_true, List.any_eq_true, decide_eq_true_eq] at h
  obtain ⟨⟨h1, h2⟩, x, hx, rfl⟩ := h
  exact (up_le hg _ i (Nat.le_refl _) (.inr h1) x hx).1
theorem recB_trans {T : List Tt} (hg : Good T) {i j k : Int} (h : recB T i j = true) (h2 : recB T j k = true) : recB T i k = true := by
  unfold recB at h h2 ⊢
  simp only [Bool.and_eq_true, List.any_eq_true, decide_eq_true_eq] at h h2 ⊢
  obtain ⟨⟨a1, a2⟩, x, hx, rfl⟩ := h
  obtain ⟨⟨b1, b2⟩, y, hy, rfl⟩ := h2
  exact ⟨⟨a1, b2⟩, y, (up_le hg _ i (Nat.le_refl _) (.inr a1) x hx).2 y hy, rfl⟩
theorem isB_one {T : List Tt} {i f g : Int} (h : isB T i f = true) (h2 : isB T i g = true) : f = g := (isB_fm h).symm.trans (isB_fm h2)
theorem rec_is {T : List Tt} {i j : Int} (h : recB T i j = true) : isB T i 10 = true ∧ isB T j 10 = true := by
  unfold recB at h
  simp only [Bool.and_eq_true] at h
  exact h.1
theorem pt_is {T : List Tt} {i j : Int} (h : ptB T i j = true) : isB T i 11 = true ∧ isB T j 11 = true := by
  unfold ptB at h
  simp only [Bool.and_eq_true] at h
  exact h.1
theorem ptB_trans {T : List Tt} (hg : Good T) {i j k : Int} (h : ptB T i j = true) (h2 : ptB T j k = true) : ptB T i k = true := by
  have a := pt_is h
  have b := pt_is h2
  unfold ptB at h h2 ⊢
  rw [a.1, b.2]
  simp only [Bool.and_eq_true, Bool.or_eq_true, decide_eq_true_eq] at h h2
  simp only [Bool.true_and, Bool.and_self, Bool.or_eq_true, decide_eq_true_eq]
  rcases h.2 with rfl | h
  · exact h2.2
  · rcases h2.2 with rfl | h2
    · exact .inr h
    · exact .inr (recB_trans hg h h2)
theorem exB_trans {T : List Tt} (hg : Good T) {i j k : Int} (h : exB T i j = true) (h2 : exB T j k = true) : exB T i k = true := by
  unfold exB at h h2 ⊢
  rw [Bool.or_eq_true] at h h2 ⊢
  rcases h with h | h <;> rcases h2 with h2 | h2
  · exact .inl (recB_trans hg h h2)
  · have := isB_one (rec_is h).2 (pt_is h2).1; omega
  · have := isB_one (pt_is h).2 (rec_is h2).1; omega
  · exact .inr (ptB_trans hg h h2)
theorem fit_parts {L : List Tt} {i j : Int} (h : fitB L i j = true) : readB L = true ∧ hasB L i = true ∧ hasB L j = true ∧ exB L i j = true := by
  unfold fitB at h
  simp only [Bool.and_eq_true] at h
  exact h
/-- What extends what extends, extends. -/
theorem fit_trans (L : List Tt) (a b c : Int) : (!fitB L a b || (!fitB L b c || fitB L a c)) = true := by
  cases h1 : fitB L a b
  · rfl
  cases h2 : fitB L b c
  · rfl
  obtain ⟨a1, a2, a3, a4⟩ := fit_parts h1
  obtain ⟨b1, b2, b3, b4⟩ := fit_parts h2
  have : fitB L a c = true := by
    unfold fitB
    rw [a1, a2, b3, exB_trans (read_inv a1).gd a4 b4]
    rfl
  rw [this]
  rfl
/-- No two records extend each other. -/
theorem fit_anti (L : List Tt) (a b : Int) (h1 : fitB L a b = true) (h2 : fitB L b a = true) (hf : (tyD L a).fm = 10) : a = b := by
  obtain ⟨a1, a2, a3, a4⟩ := fit_parts h1
  obtain ⟨b1, b2, b3, b4⟩ := fit_parts h2
  have hg := (read_inv a1).gd
  have ha : isB L a 10 = true := by unfold isB; rw [a2, hf]; rfl
  unfold exB at a4 b4
  rw [Bool.or_eq_true] at a4 b4
  have r1 : recB L a b = true := a4.resolve_right (fun h => by have := isB_one ha (pt_is h).1; omega)
  have r2 : recB L b a = true := b4.resolve_right (fun h => by have := isB_one ha (pt_is h).2; omega)
  have := recB_le hg r1
  have := recB_le hg r2
  omega
end Go.Proofs.YtgkfnfilomjphaaDoor
