/-
  Up to the place of a token, or of a fault, a text is read by itself: plain.
-/
import Derived.Test.YtphogfomlmjeiaaDoorDg
namespace Go.Proofs.YtphogfomlmjeiaaDoor
set_option linter.unusedVariables false
set_option linter.unusedSimpArgs false
open Go.RowKit

theorem opens_take {l : Bs} {K : Nat} (h : opens l = false) : opens (l.take K) = false := by
  match l, K with
  | [], K => simp [opens]
  | [a], 0 => rfl
  | [a], K + 1 => simp [opens]
  | a :: b :: r, 0 => rfl
  | a :: b :: r, 1 => rfl
  | a :: b :: r, K + 2 => simpa [opens] using h
theorem remP_take : ∀ (d : Nat) (l : Bs) (n K : Nat), remP d l = some n → n ≤ K → remP d (l.take K) = some n
  | _, [], _, _, h, _ => by simp [remP] at h
  | _, [_], _, _, h, _ => by simp [remP] at h
  | d, a :: b :: r, n, K, h, hk => by
    have h2 := (remP_le _ _ _ h).2
    obtain ⟨K, rfl⟩ : ∃ K', K = K' + 2 := ⟨K - 2, by omega⟩
    rw [remP] at h
    rw [List.take_succ_cons, List.take_succ_cons, remP]
    split at h
    · rename_i c; rw [if_pos c]
      obtain ⟨m, hm, rfl⟩ := Option.map_eq_some_iff.1 h
      rw [remP_take _ _ _ K hm (by omega)]; rfl
    · rename_i c; rw [if_neg c]
      split at h
      · rename_i c2; rw [if_pos c2]
        split at h
        · rename_i c3; rw [if_pos c3]; exact h
        · rename_i c3; rw [if_neg c3]
          obtain ⟨m, hm, rfl⟩ := Option.map_eq_some_iff.1 h
          rw [remP_take _ _ _ K hm (by omega)]; rfl
      · rename_i c2; rw [if_neg c2]
        obtain ⟨m, hm, rfl⟩ := Option.map_eq_some_iff.1 h
        have := remP_take _ _ _ (K + 1) hm (by omega)
        rw [List.take_succ_cons] at this
        rw [this]; rfl
theorem remP_untake : ∀ (d : Nat) (l : Bs) (n K : Nat), remP d (l.take K) = some n → remP d l = some n
  | _, [], _, _, h => by simp [remP] at h
  | _, [a], _, K, h => by cases K <;> simp [remP] at h
  | d, a :: b :: r, n, 0, h => by simp [remP] at h
  | d, a :: b :: r, n, 1, h => by simp [remP] at h
  | d, a :: b :: r, n, K + 2, h => by
    rw [List.take_succ_cons, List.take_succ_cons, remP] at h
    rw [remP]
    split at h
    · rename_i c; rw [if_pos c]
      obtain ⟨m, hm, rfl⟩ := Option.map_eq_some_iff.1 h
      rw [remP_untake _ _ _ K hm]; rfl
    · rename_i c; rw [if_neg c]
      split at h
      · rename_i c2; rw [if_pos c2]
        split at h
        · rename_i c3; rw [if_pos c3]; exact h
        · rename_i c3; rw [if_neg c3]
          obtain ⟨m, hm, rfl⟩ := Option.map_eq_some_iff.1 h
          rw [remP_untake _ _ _ K hm]; rfl
      · rename_i c2; rw [if_neg c2]
        obtain ⟨m, hm, rfl⟩ := Option.map_eq_some_iff.1 h
        rw [remP_untake _ (b :: r) _ (K + 1) (by rw [List.take_succ_cons]; exact hm)]; rfl
theorem remN_cases (l : Bs) : remN l = 0 ∨ opens l = true ∧ remP 0 l = some (remN l) := by
  unfold remN
  cases ho : opens l
  · exact .inl rfl
  · cases hr : remP 0 l with
    | none => exact .inl rfl
    | some n => exact .inr ⟨rfl, rfl⟩
theorem remN_take {l : Bs} {K : Nat} (h : remN l ≠ 0) (hk : remN l ≤ K) : remN (l.take K) = remN l := by
  rcases remN_cases l with h0 | ⟨ho, hr⟩
  · exact absurd h0 h
  · have hr2 := remP_take _ _ _ K hr hk
    have h2 := (remP_le _ _ _ hr).2
    obtain ⟨r, rfl⟩ := opens_two ho
    obtain ⟨K, rfl⟩ : ∃ K', K = K' + 2 := ⟨K - 2, by omega⟩
    unfold remN at hr2 ⊢
    rw [hr2, show opens ((40 :: 42 :: r : Bs).take (K + 2)) = true from rfl]; simp
theorem remN_untake {l : Bs} {K : Nat} (h : remN l = 0) : remN (l.take K) = 0 := by
  rcases remN_cases (l.take K) with h0 | ⟨ho, hr⟩
  · exact h0
  · have hr2 := remP_untake _ _ _ _ hr
    have ho2 : opens l = true := by
      cases ho3 : opens l
      · rw [opens_take ho3] at ho; cases ho
      · rfl
    unfold remN at h
    rw [ho2, hr2] at h
    rw [show remN (l.take K) = 0 from by simpa using h]
theorem skip_take (l : Bs) : ∀ K, skip l ≤ K → skip (l.take K) = skip l := by
  refine skip_ind (P := fun l => ∀ K, skip l ≤ K → skip (l.take K) = skip l) ?_ ?_ ?_ ?_ l.length l (Nat.le_refl _)
  · intro K _; simp
  · intro c r hb ih K hk
    rw [skip_blk hb] at hk ⊢
    obtain ⟨K, rfl⟩ : ∃ K', K = K' + 1 := ⟨K - 1, by omega⟩
    rw [List.take_succ_cons, skip_blk hb, ih K (by omega)]
  · intro l hr ih K hk
    rw [skip_rem hr] at hk ⊢
    have h1 := remN_take (K := K) hr (by omega)
    have h2 : remN (l.take K) ≠ 0 := by rw [h1]; exact hr
    rw [skip_rem h2, h1, List.drop_take, ih (K - remN l) (by omega)]
  · intro c r hb hn K hk
    rw [skip_stop hb hn]
    cases K with
    | zero => rfl
    | succ K =>
      have h1 := remN_untake (K := K + 1) hn
      rw [List.take_succ_cons] at h1 ⊢
      exact skip_stop hb h1
theorem tw_take (p : UInt8 → Bool) : ∀ (l : Bs) (K : Nat), (l.takeWhile p).length ≤ K → (l.take K).takeWhile p = l.takeWhile p
  | [], K, _ => by simp
  | c :: r, K, h => by
    rw [List.takeWhile_cons] at h
    cases hc : p c
    · cases K with
      | zero => simp [hc]
      | succ K => simp [hc]
    · rw [hc] at h
      simp only [if_true, List.length_cons] at h
      obtain ⟨K, rfl⟩ : ∃ K', K = K' + 1 := ⟨K - 1, by omega⟩
      rw [List.take_succ_cons, List.takeWhile_cons, List.takeWhile_cons, hc, if_pos rfl, if_pos rfl, tw_take p r K (by omega)]
theorem quoP_take : ∀ (k : Nat) (l : Bs) (n K : Nat), quoP k l = some n → n < k + K → quoP k (l.take K) = some n
  | _, [], _, _, h, _ => by simp [quoP] at h
  | k, c :: r, n, K, h, hk => by
    have h2 := (quoP_le _ _ _ h).1
    obtain ⟨K, rfl⟩ : ∃ K', K = K' + 1 := ⟨K - 1, by omega⟩
    rw [quoP] at h
    rw [List.take_succ_cons, quoP]
    split at h
    · rename_i c1; rw [if_pos c1]; exact h
    · rename_i c1; rw [if_neg c1]
      split at h
      · cases h
      · rename_i c2; rw [if_neg c2]; exact quoP_take _ _ _ K h (by omega)
theorem find_imp {f g : Bs → Bool} (s : Bs) (hg : g s = true) : ∀ L : List Bs, (∀ x ∈ L, g x = true → f x = true) → L.find? f = some s → L.find? g = some s
  | [], _, h => by simp at h
  | x :: r, hi, h => by
    rw [find_cons'] at h ⊢
    cases hf : f x
    · rw [hf] at h
      have : g x = false := by
        cases hgx : g x
        · rfl
        · rw [hi x (by simp) hgx] at hf; cases hf
      rw [this]
      exact find_imp s hg r (fun y hy => hi y (by simp [hy])) h
    · rw [hf] at h
      simp only [if_true, Option.some.injEq] at h
      subst h
      rw [hg, if_pos rfl]
theorem pre_take {s l : Bs} {K : Nat} (h : s.isPrefixOf l = true) (hk : s.length ≤ K) : s.isPrefixOf (l.take K) = true := by
  rw [List.isPrefixOf_iff_prefix] at h ⊢
  obtain ⟨t, rfl⟩ := h
  rw [List.take_append]
  exact ⟨t.take (K - s.length), by rw [List.take_of_length_le hk]⟩
theorem pre_untake {s l : Bs} {K : Nat} (h : s.isPrefixOf (l.take K) = true) : s.isPrefixOf l = true := by
  rw [List.isPrefixOf_iff_prefix] at h ⊢
  exact h.trans (List.take_prefix K l)
theorem nameP_len (w : Bs) (h : (nameP w).e = 0) : (nameP w).len = w.length := by
  unfold nameP at h ⊢
  split at h
  · rename_i c; rw [if_pos c]
  · rename_i c; rw [if_neg c]
    split at h
    · rename_i c2; rw [if_pos c2]
    · simp [Rd.bad] at h
/-- A token is read by itself. -/
theorem first_take {c : UInt8} {t : Bs} (h : (firstP (c :: t)).e = 0) (K : Nat) (hk : (firstP (c :: t)).len ≤ K) : firstP ((c :: t).take K) = firstP (c :: t) := by
  have h1 := (first_len h).1
  obtain ⟨K, rfl⟩ : ∃ K', K = K' + 1 := ⟨K - 1, by omega⟩
  rw [List.take_succ_cons, firstP, firstP]
  have e0 : c :: t.take K = (c :: t).take (K + 1) := rfl
  rw [firstP] at h hk
  unfold firstC at h hk ⊢
  cases ho : opens (c :: t)
  · rw [ho] at h hk
    rw [e0, opens_take ho]
    simp only [Bool.false_eq_true, if_false] at h hk ⊢
    by_cases hl : lett c = true
    · rw [if_pos hl] at h hk ⊢
      rw [if_pos hl]
      rw [nameP_len _ h] at hk
      rw [wordL, tw_take wch _ _ hk, ← wordL]
    · rw [if_neg hl] at h hk ⊢
      rw [if_neg hl]
      by_cases hd : dig c = true
      · rw [if_pos hd] at h hk ⊢
        rw [if_pos hd]
        rw [(numP_len _ h).1] at hk
        rw [wordL, tw_take wch _ _ hk, ← wordL]
      · rw [if_neg hd] at h hk ⊢
        rw [if_neg hd]
        by_cases hq : c = 34
        · rw [if_pos hq] at h hk ⊢
          rw [if_pos hq]
          unfold quotedP at h hk ⊢
          rw [← e0, List.tail_cons, List.tail_cons] at *
          cases hv : quoP 0 t with
          | none => rw [hv] at h; simp [quoT, Rd.bad] at h
          | some k =>
            rw [hv] at hk
            have hk : k + 2 ≤ K + 1 := hk
            rw [quoP_take 0 t k K hv (by omega)]
            simp only [quoT]
            rw [List.take_take, Nat.min_eq_left (by omega)]
        · rw [if_neg hq] at h hk ⊢
          rw [if_neg hq]
          unfold signP at h hk ⊢
          cases hv : signsL.find? (fun s => s.isPrefixOf (c :: t)) with
          | none => rw [hv] at h; simp [signT, Rd.bad] at h
          | some s =>
            rw [hv] at hk
            have hk : s.length ≤ K + 1 := hk
            rw [find_imp (f := fun s => s.isPrefixOf (c :: t)) (g := fun s => s.isPrefixOf ((c :: t).take (K + 1))) s (pre_take (l := c :: t) (by have := List.find?_some hv; exact this) hk) signsL (fun x _ hx => pre_untake hx) hv]
  · rw [ho] at h; simp [Rd.bad] at h
/-- The step of a reading, of a text and of what it begins with. -/
theorem step_take (p : Nat) (l : Bs) (r : Rd) (hr : firstP (l.drop (skip l)) = r) (he : r.e = 0) (hk : r.k ≠ 0) (K : Nat) (hK : skip l + r.len ≤ K) :
    goX p (l.take K) = (goX (p + skip l + r.len) ((l.drop (skip l + r.len)).take (K - (skip l + r.len)))).pre [⟨r.k, r.t, r.n, p + skip l⟩] := by
  have hs := skip_take l K (by omega)
  have hne : l.drop (skip l) ≠ [] := fun h => hk (by rw [← hr]; exact (first_end (by rw [hr]; exact he)).2 h)
  obtain ⟨c, t, hd⟩ : ∃ c t, l.drop (skip l) = c :: t := by
    cases hd : l.drop (skip l) with
    | nil => exact absurd hd hne
    | cons c r => exact ⟨c, r, rfl⟩
  have hf : firstP ((l.take K).drop (skip (l.take K))) = r := by
    rw [hs, List.drop_take, hd, first_take (by rw [← hd, hr]; exact he) (K - skip l) (by rw [← hd, hr]; omega), ← hd, hr]
  obtain ⟨g, _, _⟩ := goX_step p (l.take K) r hf he hk
  rw [g, hs, List.drop_take]
theorem end_take (p : Nat) (l : Bs) : goX p (l.take (skip l)) = ⟨[⟨0, [], 0, p + skip l⟩], 0, 0⟩ := by
  have hs := skip_take l (skip l) (Nat.le_refl _)
  have hd : (l.take (skip l)).drop (skip (l.take (skip l))) = [] := by rw [hs]; exact List.drop_of_length_le (by rw [List.length_take]; omega)
  rw [goX_end p _ (by rw [hd]; rfl) (by rw [hd]; rfl), hs]
/-- What is read up to a place. -/
def UpTo (p : Nat) (l : Bs) (ts : List Tok) (i : Nat) (q : Nat) : Prop := q ≤ l.length ∧ goX p (l.take q) = ⟨ts.take i ++ [⟨0, [], 0, p + q⟩], 0, 0⟩
theorem ahead_bad : ∀ (n p : Nat) (l : Bs), l.length ≤ n → (goX p l).e ≠ 0 → ∃ q d, (goX p l).ts = [] ∧ (goX p l).p = p + q ∧ q < l.length ∧ goX p (l.take q) = ⟨d ++ [⟨0, [], 0, p + q⟩], 0, 0⟩ := by
  intro n
  induction n with
  | zero =>
    intro p l hl h
    have : l = [] := List.eq_nil_of_length_eq_zero (by omega)
    subst this
    rw [goX_end p [] rfl rfl] at h
    simp at h
  | succ n ih =>
    intro p l hl h
    obtain ⟨r, hr⟩ : ∃ r, firstP (l.drop (skip l)) = r := ⟨_, rfl⟩
    have hs := skip_le l
    by_cases he : r.e = 0
    · by_cases hk : r.k = 0
      · rw [goX_end p l (by rw [hr]; exact he) (by rw [hr]; exact hk)] at h
        simp at h
      · obtain ⟨g, g2, g3⟩ := goX_step p l r hr he hk
        have h' : (goX (p + skip l + r.len) (l.drop (skip l + r.len))).e ≠ 0 := by
          rw [g] at h; unfold Al.pre at h; split at h
          · exact absurd (by assumption) h
          · exact h
        obtain ⟨q, d, q1, q2, q3, q4⟩ := ih (p + skip l + r.len) (l.drop (skip l + r.len)) (by rw [List.length_drop]; omega) h'
        rw [List.length_drop] at q3
        refine ⟨skip l + r.len + q, [⟨r.k, r.t, r.n, p + skip l⟩] ++ d, ?_, ?_, by omega, ?_⟩
        · rw [g]; unfold Al.pre; rw [if_neg h']; exact q1
        · rw [g]; unfold Al.pre; rw [if_neg h', q2]; omega
        · rw [step_take p l r hr he hk _ (by omega), show skip l + r.len + q - (skip l + r.len) = q by omega, q4]
          unfold Al.pre
          simp
          omega
    · rw [goX_bad p l r.e (by rw [hr]) he]
      refine ⟨skip l, [], rfl, rfl, ?_, by rw [end_take]; rfl⟩
      rcases Nat.lt_or_ge (skip l) l.length with h1 | h1
      · exact h1
      · rw [List.drop_of_length_le h1] at hr
        rw [← hr] at he
        exact absurd rfl he
structure Good (p : Nat) (l : Bs) (A : Al) : Prop where
  zero : A.p = 0
  last : ∃ d, A.ts = d ++ [⟨0, [], 0, p + l.length⟩]
  upto : ∀ i (h : i < A.ts.length), ∃ q, A.ts[i].p = p + q ∧ UpTo p l A.ts i q
  rise : ∀ i (h : i + 1 < A.ts.length), A.ts[i].p < A.ts[i + 1].p
theorem ahead_good : ∀ (n p : Nat) (l : Bs), l.length ≤ n → (goX p l).e = 0 → Good p l (goX p l) := by
  intro n
  induction n with
  | zero =>
    intro p l hl h
    have : l = [] := List.eq_nil_of_length_eq_zero (by omega)
    subst this
    rw [goX_end p [] rfl rfl]
    refine ⟨rfl, ⟨[], rfl⟩, fun i hi => ?_, fun i hi => by simp at hi⟩
    obtain rfl : i = 0 := by simpa using hi
    exact ⟨0, rfl, by simp, by simp [goX_end p [] rfl rfl, skip_nil]⟩
  | succ n ih =>
    intro p l hl h
    obtain ⟨r, hr⟩ : ∃ r, firstP (l.drop (skip l)) = r := ⟨_, rfl⟩
    have hs := skip_le l
    by_cases he : r.e = 0
    · by_cases hk : r.k = 0
      · have hnil : l.drop (skip l) = [] := (first_end (by rw [hr]; exact he)).1 (by rw [hr]; exact hk)
        have hsl : skip l = l.length := by have := congrArg List.length hnil; rw [List.length_drop] at this; simp at this; omega
        rw [goX_end p l (by rw [hr]; exact he) (by rw [hr]; exact hk)]
        refine ⟨rfl, ⟨[], by rw [hsl]; rfl⟩, fun i hi => ?_, fun i hi => by simp at hi⟩
        obtain rfl : i = 0 := by simpa using hi
        exact ⟨skip l, rfl, hs, end_take p l⟩
      · obtain ⟨g, g2, g3⟩ := goX_step p l r hr he hk
        have h' : (goX (p + skip l + r.len) (l.drop (skip l + r.len))).e = 0 := by
          rw [g] at h; unfold Al.pre at h; split at h
          · assumption
          · exact h
        obtain ⟨q1, ⟨d, q2⟩, q3, q4⟩ := ih (p + skip l + r.len) (l.drop (skip l + r.len)) (by rw [List.length_drop]; omega) h'
        have g' : goX p l = ⟨⟨r.k, r.t, r.n, p + skip l⟩ :: (goX (p + skip l + r.len) (l.drop (skip l + r.len))).ts, 0, 0⟩ := by
          rw [g]; unfold Al.pre; rw [if_pos h', q1, h']; rfl
        rw [g']
        refine ⟨rfl, ⟨⟨r.k, r.t, r.n, p + skip l⟩ :: d, ?_⟩, fun i hi => ?_, fun i hi => ?_⟩
        · rw [q2, List.length_drop]; simp; omega
        · cases i with
          | zero => exact ⟨skip l, rfl, hs, by rw [end_take]; rfl⟩
          | succ i =>
            obtain ⟨q, u1, u2, u3⟩ := q3 i (by simpa using hi)
            rw [List.length_drop] at u2
            refine ⟨skip l + r.len + q, ?_, by omega, ?_⟩
            · show _ = _
              simp only [List.getElem_cons_succ]
              rw [u1]; omega
            · rw [step_take p l r hr he hk _ (by omega), show skip l + r.len + q - (skip l + r.len) = q by omega, u3]
              unfold Al.pre
              simp
              omega
        · cases i with
          | zero =>
            obtain ⟨q, u1, _⟩ := q3 0 (by simpa using hi)
            simp only [List.getElem_cons_zero, List.getElem_cons_succ]
            rw [u1]; omega
          | succ i =>
            have := q4 i (by simpa using hi)
            simpa using this
    · rw [goX_bad p l r.e (by rw [hr]) he] at h
      exact absurd h he
end Go.Proofs.YtphogfomlmjeiaaDoor
