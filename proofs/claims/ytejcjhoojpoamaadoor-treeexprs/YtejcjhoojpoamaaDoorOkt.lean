/-
  Layer 9, plain: of tokens that are read of a text keywords are keywords, and signs are signs.
-/
import Derived.Test.YtejcjhoojpoamaaDoorDsm
namespace Go.Proofs.YtejcjhoojpoamaaDoor
set_option linter.unusedVariables false
set_option linter.unusedSimpArgs false

/-- A token as it is read of a text. -/
def okT (x : Tok) : Prop := (x.k = 2 → x.t ∈ keysL) ∧ (x.k = 6 → x.t ∈ signsL)
theorem first_ok (l : Bs) (p : Nat) (h : (firstP l).e = 0) : okT ⟨(firstP l).k, (firstP l).t, (firstP l).n, p⟩ := by
  cases l with
  | nil => exact ⟨by simp [firstP], by simp [firstP]⟩
  | cons c r =>
    simp only [firstP, firstC] at h ⊢
    split at h
    · simp [Rd.bad] at h
    split at h
    · rename_i ho hl
      rw [if_neg ho, if_pos hl]
      simp only [nameP] at h ⊢
      split at h
      · rename_i hk
        rw [if_pos hk]
        exact ⟨fun _ => by simpa [isKeyP] using hk, by simp⟩
      · split at h
        · rename_i hk hk2; rw [if_neg hk, if_pos hk2]; exact ⟨by simp, by simp⟩
        · simp [Rd.bad] at h
    split at h
    · rename_i ho hl hd
      rw [if_neg ho, if_neg hl, if_pos hd]
      simp only [numP] at h ⊢
      split at h
      · rename_i hk; rw [if_pos hk]
        cases hv : valP 16 4294967295 0 (wordL (c :: r)).dropLast <;> exact ⟨by simp [numT, Rd.bad], by simp [numT, Rd.bad]⟩
      · split at h
        · rename_i hk hk2; rw [if_neg hk, if_pos hk2]
          cases hv : valP 16 255 0 (wordL (c :: r)).dropLast <;> exact ⟨by simp [numT, Rd.bad], by simp [numT, Rd.bad]⟩
        · rename_i hk hk2; rw [if_neg hk, if_neg hk2]
          cases hv : valP 10 2147483647 0 (wordL (c :: r)) <;> exact ⟨by simp [numT, Rd.bad], by simp [numT, Rd.bad]⟩
    split at h
    · rename_i ho hl hd hq
      rw [if_neg ho, if_neg hl, if_neg hd, if_pos hq]
      simp only [quotedP, List.tail_cons]
      cases hk : quoP 0 r <;> exact ⟨by simp [quoT, Rd.bad], by simp [quoT, Rd.bad]⟩
    · rename_i ho hl hd hq
      rw [if_neg ho, if_neg hl, if_neg hd, if_neg hq]
      simp only [signP]
      cases hk : signsL.find? (fun s => s.isPrefixOf (c :: r)) with
      | none => exact ⟨by simp [signT, Rd.bad], by simp [signT, Rd.bad]⟩
      | some s => exact ⟨by simp [signT], fun _ => by simpa [signT] using List.mem_of_find?_eq_some hk⟩
theorem goX_ok : ∀ (n p : Nat) (l : Bs), l.length ≤ n → ∀ x ∈ (goX p l).ts, okT x := by
  intro n
  induction n with
  | zero =>
    intro p l hl x hx
    have : l = [] := List.eq_nil_of_length_eq_zero (by omega)
    subst this
    rw [goX_end p [] rfl rfl] at hx
    simp at hx; rw [hx]; exact ⟨by simp, by simp⟩
  | succ n ih =>
    intro p l hl x hx
    obtain ⟨r, hr⟩ : ∃ r, firstP (l.drop (skip l)) = r := ⟨_, rfl⟩
    by_cases he : r.e = 0
    · by_cases hk : r.k = 0
      · rw [goX_end p l (by rw [hr]; exact he) (by rw [hr]; exact hk)] at hx
        simp at hx; rw [hx]; exact ⟨by simp, by simp⟩
      · obtain ⟨g, g2, g3⟩ := goX_step p l r hr he hk
        have h1 := first_ok (l.drop (skip l)) (p + skip l) (by rw [hr]; exact he)
        rw [hr] at h1
        rw [g] at hx; unfold Al.pre at hx; split at hx
        · rcases List.mem_append.1 hx with h | h
          · simp at h; rw [h]; exact h1
          · exact ih _ _ (by rw [List.length_drop]; omega) x h
        · exact ih _ _ (by rw [List.length_drop]; omega) x hx
    · rw [goX_bad p l r.e (by rw [hr]) he] at hx
      simp at hx
theorem allP_ok (l : Bs) : ∀ x ∈ (allP l).ts, okT x := by
  by_cases h : l.length ≤ 16384
  · rw [allP_goX l h]; exact goX_ok l.length 0 l (Nat.le_refl _)
  · unfold allP; rw [if_pos (by omega)]; simp
theorem apart1 : ∀ s ∈ signsL, s ∉ keysL := by decide
theorem apart2 : ∀ s ∈ keysL, s ∉ signsL := by decide
theorem apart3 : ∀ s ∈ signsL, s ≠ [] := by decide
theorem apart4 : ∀ s ∈ keysL, s ≠ [] := by decide
theorem tl_dec (a s : Bs) : ((bs a).toList == (bs s).toList) = decide (a = s) := by rw [Lib.toList_data, Lib.toList_data, bs_data, bs_data, Bool.eq_iff_iff, beq_iff_eq, decide_eq_true_eq]
theorem sg_wd {t : List Tok} {s : Bs} (h : okT (hd t)) (hs : s ∈ signsL) : sgB 0 (hd t) s = decide (wd t = s) := by
  unfold sgB wd
  rw [tl_dec]
  by_cases h6 : (hd t).k = 6
  · rw [if_pos (.inr h6)]; simp [Tok.tk, h6]
  · have e6 : ((hd t).tk.k == 6) = false := by simpa [Tok.tk] using h6
    rw [e6]
    by_cases h2 : (hd t).k = 2
    · rw [if_pos (.inl h2)]
      have : (hd t).t ≠ s := fun e => apart1 s hs (by rw [← e]; exact h.1 h2)
      simp [this]
    · rw [if_neg (by omega)]
      have : ([] : Bs) ≠ s := fun e => apart3 s hs e.symm
      simp [this]
theorem ky_wd {t : List Tok} {s : Bs} (h : okT (hd t)) (hs : s ∈ keysL) : kyB 0 (hd t) s = decide (wd t = s) := by
  unfold kyB wd
  rw [tl_dec]
  by_cases h6 : (hd t).k = 2
  · rw [if_pos (.inl h6)]; simp [Tok.tk, h6]
  · have e6 : ((hd t).tk.k == 2) = false := by simpa [Tok.tk] using h6
    rw [e6]
    by_cases h2 : (hd t).k = 6
    · rw [if_pos (.inr h2)]
      have : (hd t).t ≠ s := fun e => apart2 s hs (by rw [← e]; exact h.2 h2)
      simp [this]
    · rw [if_neg (by omega)]
      have : ([] : Bs) ≠ s := fun e => apart4 s hs e.symm
      simp [this]
theorem sg_dead {e : Int} {x : Tok} {s : Bs} (h : e ≠ 0) : sgB e x s = false := by simp [sgB, h]
theorem ky_dead {e : Int} {x : Tok} {s : Bs} (h : e ≠ 0) : kyB e x s = false := by simp [kyB, h]
theorem kd_dead {e : Int} {x : Tok} {k : Int} (h : e ≠ 0) : kdB e x k = false := by simp [kdB, h]
theorem kd_live {x : Tok} {k : Int} : kdB 0 x k = decide (x.k = k) := by
  unfold kdB Tok.tk
  rw [Bool.eq_iff_iff]; simp
/-- The document's tests of signs between operands. -/
def relB (x : Tok) : Bool := (x.k == 2 && (x.t == [73, 78] || x.t == [73, 83])) || (x.k == 6 && (x.t == [61] || x.t == [35] || x.t == [60] || x.t == [60, 61] || x.t == [62] || x.t == [62, 61]))
def addB (x : Tok) : Bool := (x.k == 6 && (x.t == [43] || x.t == [45])) || (x.k == 2 && x.t == [79, 82])
def mulB (x : Tok) : Bool := (x.k == 6 && (x.t == [42] || x.t == [47] || x.t == [38])) || (x.k == 2 && (x.t == [68, 73, 86] || x.t == [77, 79, 68]))
theorem keys_rank : ∀ s ∈ keysL, rankP s = (if s = [73, 78] ∨ s = [73, 83] then 1 else if s = [79, 82] then 2 else if s = [68, 73, 86] ∨ s = [77, 79, 68] then 3 else 0) := by decide
theorem signs_rank : ∀ s ∈ signsL, rankP s = (if s = [61] ∨ s = [35] ∨ s = [60] ∨ s = [60, 61] ∨ s = [62] ∨ s = [62, 61] then 1 else if s = [43] ∨ s = [45] then 2 else if s = [42] ∨ s = [47] ∨ s = [38] then 3 else 0) := by decide
theorem keys_b : ∀ s ∈ keysL, (s == [73, 78] || s == [73, 83]) = decide (rankP s = 1) ∧ (s == [79, 82]) = decide (rankP s = 2) ∧ (s == [68, 73, 86] || s == [77, 79, 68]) = decide (rankP s = 3) := by decide
theorem signs_b : ∀ s ∈ signsL, (s == [61] || s == [35] || s == [60] || s == [60, 61] || s == [62] || s == [62, 61]) = decide (rankP s = 1) ∧ (s == [43] || s == [45]) = decide (rankP s = 2) ∧ (s == [42] || s == [47] || s == [38]) = decide (rankP s = 3) := by decide
theorem rank_wd {t : List Tok} (h : okT (hd t)) : relB (hd t) = decide (rankP (wd t) = 1) ∧ addB (hd t) = decide (rankP (wd t) = 2) ∧ mulB (hd t) = decide (rankP (wd t) = 3) := by
  unfold relB addB mulB wd
  by_cases h2 : (hd t).k = 2
  · have e6 : ((hd t).k == 6) = false := by simp; omega
    have e2 : ((hd t).k == 2) = true := by simpa using h2
    rw [if_pos (.inl h2), e6, e2]
    obtain ⟨a, b, c⟩ := keys_b _ (h.1 h2)
    rw [a, b, c]
    simp
  · have e2 : ((hd t).k == 2) = false := by simpa using h2
    by_cases h6 : (hd t).k = 6
    · have e6 : ((hd t).k == 6) = true := by simpa using h6
      rw [if_pos (.inr h6), e6, e2]
      obtain ⟨a, b, c⟩ := signs_b _ (h.2 h6)
      rw [a, b, c]
      simp
    · have e6 : ((hd t).k == 6) = false := by simpa using h6
      rw [if_neg (by omega), e6, e2]
      simp [rankP]
end Go.Proofs.YtejcjhoojpoamaaDoor
