/-
  Tokens that are written again, with a blank or a remark between each two, are read as they were: plain.
-/
import Derived.Test.YtphogfomlmjeiaaDoorNumP
import Derived.Test.YtphogfomlmjeiaaDoorAhe
import Derived.Test.YtphogfomlmjeiaaDoorAheW
namespace Go.Proofs.YtphogfomlmjeiaaDoor
set_option linter.unusedVariables false
set_option linter.unusedSimpArgs false
open Go.RowKit

/-- A number as one of 32 bits without a sign. -/
def u32 (n : Int) : Nat := (n % 4294967296).toNat
theorem u32_lt (n : Int) : u32 n < 4294967296 := by unfold u32; omega
theorem u32_sgnd {n : Int} (h0 : -2147483648 ≤ n) (h1 : n ≤ 2147483647) : sgnd (u32 n) = n := by
  unfold sgnd u32; split <;> omega
theorem u32_small {n : Int} (h0 : 0 ≤ n) (h1 : n ≤ 255) : ((u32 n : Nat) : Int) = n := by unfold u32; omega
/-- A token as a source says it. -/
def wr (x : Tok) : Bs := if x.k = 3 then 48 :: D 16 (u32 x.n) ++ [72] else if x.k = 4 then 48 :: D 16 (u32 x.n) ++ [88] else if x.k = 5 then 34 :: x.t ++ [34] else x.t
theorem wd_t {c : UInt8} {r : Bs} (h : wch c = true) : wordL (c :: r) = c :: wordL r := by simp [wordL, h]
theorem wd_f {c : UInt8} {r : Bs} (h : wch c = false) : wordL (c :: r) = [] := by simp [wordL, h]
/-- What may stand behind a token. -/
def Sep (R : Bs) : Prop := R = [] ∨ (∃ r, R = 32 :: r) ∨ ∃ r, R = 40 :: r
theorem Sep.word {R : Bs} (h : Sep R) : wordL R = [] := by
  rcases h with rfl | ⟨r, rfl⟩ | ⟨r, rfl⟩
  · rfl
  · exact wd_f (by decide)
  · exact wd_f (by decide)
/-- A token that is read from its text, whatever stands behind. -/
def Again (x : Tok) : Prop := ∀ R, Sep R → skip (wr x ++ R) = 0 ∧ firstP (wr x ++ R) = ⟨x.k, x.t, x.n, (wr x).length, 0⟩
theorem word_app {w R : Bs} (hw : ∀ c ∈ w, wch c = true) (hR : Sep R) : wordL (w ++ R) = w := by
  induction w with
  | nil => rw [List.nil_append]; exact hR.word
  | cons c r ih => rw [List.cons_append, wd_t (hw c (by simp)), ih fun x hx => hw x (by simp [hx])]
theorem skip_head {c : UInt8} {r : Bs} (hb : blk c = false) (ho : opens (c :: r) = false) : skip (c :: r) = 0 := skip_stop hb (remN_closed ho)
theorem let_not {c : UInt8} (h : lett c = true) : blk c = false ∧ c ≠ 40 := by
  simp only [lett, ltrI, Bool.or_eq_true, Bool.and_eq_true, decide_eq_true_eq] at h
  refine ⟨by simp [blk, blkI]; omega, fun e => ?_⟩
  rw [e] at h
  have : ((40 : UInt8).toNat : Int) = 40 := rfl
  omega
/-- A word that begins with a digit. -/
theorem again_num {W : Bs} {c : UInt8} {r : Bs} (hW : W = c :: r) (hd : dig c = true) (hw : ∀ x ∈ W, wch x = true) (R : Bs) (hR : Sep R) : skip (W ++ R) = 0 ∧ firstP (W ++ R) = numP W := by
  obtain ⟨h1, h2, h3⟩ := dig_not hd
  have e : W ++ R = c :: (r ++ R) := by rw [hW]; rfl
  have ho : opens (W ++ R) = false := by rw [e]; exact opens_head h3
  refine ⟨by rw [e] at ho ⊢; exact skip_head h1 ho, ?_⟩
  have e2 : firstP (W ++ R) = firstC c (W ++ R) := by rw [e]; rfl
  rw [e2, firstC, ho, h2, hd, word_app hw hR]; simp
theorem again_int {n : Int} (p : Nat) (h0 : -2147483648 ≤ n) (h1 : n ≤ 2147483647) : Again ⟨3, [], n, p⟩ := fun R hR => by
  have hw := hex_word (u32 n) 72 (by decide)
  have e : wr ⟨3, [], n, p⟩ = 48 :: (D 16 (u32 n) ++ [72]) := rfl
  obtain ⟨g1, g2⟩ := again_num (W := 48 :: (D 16 (u32 n) ++ [72])) rfl (by decide) hw R hR
  rw [e]
  refine ⟨g1, ?_⟩
  rw [g2, num_H _ (u32_lt n), u32_sgnd h0 h1]
theorem again_char {n : Int} (p : Nat) (h0 : 0 ≤ n) (h1 : n ≤ 255) : Again ⟨4, [], n, p⟩ := fun R hR => by
  have hw := hex_word (u32 n) 88 (by decide)
  have e : wr ⟨4, [], n, p⟩ = 48 :: (D 16 (u32 n) ++ [88]) := rfl
  obtain ⟨g1, g2⟩ := again_num (W := 48 :: (D 16 (u32 n) ++ [88])) rfl (by decide) hw R hR
  have hu := u32_small h0 h1
  rw [e]
  refine ⟨g1, ?_⟩
  rw [g2, num_X _ (u32_lt n), if_pos (by omega), hu]
theorem again_name {c : UInt8} {t : Bs} (hl : lett c = true) (k : Int) (p : Nat) (hk : k = 1 ∨ k = 2) (h : nameP (wordL (c :: t)) = ⟨k, wordL (c :: t), 0, (wordL (c :: t)).length, 0⟩) : Again ⟨k, wordL (c :: t), 0, p⟩ := fun R hR => by
  have e : wr ⟨k, wordL (c :: t), 0, p⟩ = wordL (c :: t) := by unfold wr; rcases hk with rfl | rfl <;> rfl
  have hw : ∀ x ∈ wordL (c :: t), wch x = true := fun x hx => by
    have : ∀ l : Bs, ∀ x ∈ l.takeWhile wch, wch x = true := fun l => by
      induction l with
      | nil => intro x h; simp at h
      | cons a r ih =>
        intro x h
        rw [List.takeWhile_cons] at h
        cases ha : wch a
        · rw [ha] at h; simp at h
        · rw [ha, if_pos rfl] at h
          rcases List.mem_cons.1 h with rfl | h
          · exact ha
          · exact ih x h
    exact this _ x hx
  rw [e]
  have hc : wordL (c :: t) = c :: wordL t := wd_t (by simp [wch, hl])
  obtain ⟨h1, h2⟩ := let_not hl
  have e2 : wordL (c :: t) ++ R = c :: (wordL t ++ R) := by rw [hc]; rfl
  have ho : opens (wordL (c :: t) ++ R) = false := by rw [e2]; exact opens_head h2
  refine ⟨by rw [e2] at ho ⊢; exact skip_head h1 ho, ?_⟩
  have e3 : firstP (wordL (c :: t) ++ R) = firstC c (wordL (c :: t) ++ R) := by rw [e2]; rfl
  rw [e3, firstC, ho, hl, word_app hw hR, h]; simp
theorem quoP_again : ∀ (k : Nat) (l : Bs) (n : Nat), quoP k l = some n → ∀ R, quoP k (l.take (n - k) ++ 34 :: R) = some n
  | _, [], _, h, _ => by simp [quoP] at h
  | k, c :: r, n, h, R => by
    rw [quoP] at h
    split at h
    · obtain rfl : k = n := by simpa using h
      rw [Nat.sub_self]; simp [quoP]
    · rename_i c1
      split at h
      · cases h
      · rename_i c2
        have h2 := (quoP_le _ _ _ h).1
        have ih := quoP_again (k + 1) r n h R
        rw [show n - k = (n - (k + 1)) + 1 by omega, List.take_succ_cons, List.cons_append, quoP, if_neg c1, if_neg c2]
        exact ih
theorem again_str {l : Bs} {n : Nat} (p : Nat) (h : quoP 0 l = some n) : Again ⟨5, l.take n, 0, p⟩ := fun R hR => by
  have e : wr ⟨5, l.take n, 0, p⟩ = 34 :: (l.take n ++ [34]) := rfl
  have hn := (quoP_le _ _ _ h).2
  have hq := quoP_again 0 l n h R
  rw [Nat.sub_zero] at hq
  have e2 : 34 :: (l.take n ++ [34]) ++ R = 34 :: (l.take n ++ 34 :: R) := by simp
  rw [e, e2]
  have ho : opens (34 :: (l.take n ++ 34 :: R)) = false := opens_head (by decide)
  refine ⟨skip_head (by decide) ho, ?_⟩
  rw [firstP, firstC, ho, show lett 34 = false from by decide, show dig 34 = false from by decide]
  simp only [Bool.false_eq_true, if_false, if_true]
  unfold quotedP
  rw [List.tail_cons, hq]
  have h1 : (l.take n ++ 34 :: R).take n = l.take n := by
    rw [List.take_append_of_le_length (by rw [List.length_take]; omega), List.take_take, Nat.min_self]
  have h2 : (34 :: (l.take n ++ [34])).length = n + 2 := by simp; omega
  rw [h2]
  show (⟨5, (l.take n ++ 34 :: R).take n, 0, n + 2, 0⟩ : Rd) = _
  rw [h1]
theorem sign_again : ∀ s ∈ signsL, ∀ R, Sep R → signsL.find? (fun x => x.isPrefixOf (s ++ R)) = some s := by
  intro s hs R hR
  simp only [signsL, List.mem_cons, List.not_mem_nil, or_false] at hs
  rcases hR with rfl | ⟨r, rfl⟩ | ⟨r, rfl⟩ <;> rcases hs with rfl | rfl | rfl | rfl | rfl | rfl | rfl | rfl | rfl | rfl | rfl | rfl | rfl | rfl | rfl | rfl | rfl | rfl | rfl | rfl | rfl | rfl | rfl | rfl | rfl | rfl <;> rfl
theorem sign_head : ∀ s ∈ signsL, ∃ c r, s = c :: r ∧ blk c = false ∧ lett c = false ∧ dig c = false ∧ c ≠ 34 := by
  intro s hs
  simp only [signsL, List.mem_cons, List.not_mem_nil, or_false] at hs
  rcases hs with rfl | rfl | rfl | rfl | rfl | rfl | rfl | rfl | rfl | rfl | rfl | rfl | rfl | rfl | rfl | rfl | rfl | rfl | rfl | rfl | rfl | rfl | rfl | rfl | rfl | rfl <;> exact ⟨_, _, rfl, by decide, by decide, by decide, by decide⟩
theorem sign_opens : ∀ s ∈ signsL, ∀ R, Sep R → opens (s ++ R) = false := by
  intro s hs R hR
  simp only [signsL, List.mem_cons, List.not_mem_nil, or_false] at hs
  rcases hR with rfl | ⟨r, rfl⟩ | ⟨r, rfl⟩ <;> rcases hs with rfl | rfl | rfl | rfl | rfl | rfl | rfl | rfl | rfl | rfl | rfl | rfl | rfl | rfl | rfl | rfl | rfl | rfl | rfl | rfl | rfl | rfl | rfl | rfl | rfl | rfl <;> rfl
theorem again_sign {s : Bs} (p : Nat) (hs : s ∈ signsL) : Again ⟨6, s, 0, p⟩ := fun R hR => by
  have e : wr ⟨6, s, 0, p⟩ = s := rfl
  obtain ⟨c, r, hc, h1, h2, h3, h4⟩ := sign_head s hs
  have ho := sign_opens s hs R hR
  have hf := sign_again s hs R hR
  rw [e]
  have e2 : s ++ R = c :: (r ++ R) := by rw [hc]; rfl
  refine ⟨by rw [e2] at ho ⊢; exact skip_head h1 ho, ?_⟩
  have e3 : firstP (s ++ R) = firstC c (s ++ R) := by rw [e2]; rfl
  rw [e3, firstC, ho, h2, h3]
  simp only [Bool.false_eq_true, if_false]
  rw [if_neg h4]
  unfold signP
  rw [hf]; rfl
/-- Each token that is read is read again from its text. -/
theorem first_again {c : UInt8} {t : Bs} (h : (firstP (c :: t)).e = 0) (p : Nat) : Again ⟨(firstP (c :: t)).k, (firstP (c :: t)).t, (firstP (c :: t)).n, p⟩ := by
  rw [firstP] at h ⊢
  unfold firstC at h ⊢
  split at h
  · simp [Rd.bad] at h
  · rename_i ho
    rw [if_neg ho]
    split at h
    · rename_i hl
      rw [if_pos hl]
      unfold nameP at h ⊢
      split at h
      · rename_i hk; rw [if_pos hk]; exact again_name hl 2 p (.inr rfl) (by unfold nameP; rw [if_pos hk])
      · rename_i hk; rw [if_neg hk]
        split at h
        · rename_i hn; rw [if_pos hn]; exact again_name hl 1 p (.inl rfl) (by unfold nameP; rw [if_neg hk, if_pos hn])
        · simp [Rd.bad] at h
    · rename_i hl
      rw [if_neg hl]
      split at h
      · rename_i hd
        rw [if_pos hd]
        unfold numP at h ⊢
        split at h
        · rename_i h1; rw [if_pos h1]
          cases hv : valP 16 4294967295 0 (wordL (c :: t)).dropLast with
          | none => rw [hv] at h; simp [numT, Rd.bad] at h
          | some v =>
            obtain ⟨v0, v1⟩ := valP_range 16 4294967295 (by omega) _ 0 v (by omega) (by omega) hv
            obtain ⟨s0, s1⟩ := sgnd_range v v0 v1
            exact again_int p s0 s1
        · rename_i h1; rw [if_neg h1]
          split at h
          · rename_i h2; rw [if_pos h2]
            cases hv : valP 16 255 0 (wordL (c :: t)).dropLast with
            | none => rw [hv] at h; simp [numT, Rd.bad] at h
            | some v =>
              obtain ⟨v0, v1⟩ := valP_range 16 255 (by omega) _ 0 v (by omega) (by omega) hv
              exact again_char p v0 v1
          · rename_i h2; rw [if_neg h2]
            cases hv : valP 10 2147483647 0 (wordL (c :: t)) with
            | none => rw [hv] at h; simp [numT, Rd.bad] at h
            | some v =>
              obtain ⟨v0, v1⟩ := valP_range 10 2147483647 (by omega) _ 0 v (by omega) (by omega) hv
              exact again_int (n := v) p (by omega) (by omega)
      · rename_i hd
        rw [if_neg hd]
        split at h
        · rename_i hq
          rw [if_pos hq]
          unfold quotedP at h ⊢
          rw [List.tail_cons] at h ⊢
          cases hv : quoP 0 t with
          | none => rw [hv] at h; simp [quoT, Rd.bad] at h
          | some n => exact again_str p hv
        · rename_i hq
          rw [if_neg hq]
          unfold signP at h ⊢
          cases hv : signsL.find? (fun s => s.isPrefixOf (c :: t)) with
          | none => rw [hv] at h; simp [signT, Rd.bad] at h
          | some s => exact again_sign p (List.mem_of_find?_eq_some hv)
theorem first_text (l : Bs) : (firstP l).t.length ≤ l.length := by
  cases l with
  | nil => simp [firstP]
  | cons c t =>
    have hw := wordL_len (c :: t)
    rw [firstP]
    unfold firstC
    split
    · simp [Rd.bad]
    · split
      · unfold nameP; split
        · exact hw
        · split
          · exact hw
          · simp [Rd.bad]
      · split
        · unfold numP; split
          · cases valP 16 4294967295 0 (wordL (c :: t)).dropLast <;> simp [numT, Rd.bad]
          · split
            · cases valP 16 255 0 (wordL (c :: t)).dropLast <;> simp [numT, Rd.bad]
            · cases valP 10 2147483647 0 (wordL (c :: t)) <;> simp [numT, Rd.bad]
        · split
          · unfold quotedP; cases quoP 0 (c :: t).tail <;> simp [quoT, Rd.bad]; omega
          · unfold signP
            cases hv : signsL.find? (fun s => s.isPrefixOf (c :: t)) with
            | none => simp [signT, Rd.bad]
            | some s =>
              have h2 := List.find?_some hv
              exact (List.isPrefixOf_iff_prefix.1 h2).length_le
/-- What holds of each token of a source. -/
structure TokOk (x : Tok) : Prop where
  kind : x.k ≠ 0
  again : Again x
  len : x.t.length ≤ 16384
theorem toks_ok : ∀ (n p : Nat) (l : Bs), l.length ≤ n → l.length ≤ 16384 → (goX p l).e = 0 → ∃ d q, (goX p l).ts = d ++ [⟨0, [], 0, q⟩] ∧ ∀ x ∈ d, TokOk x := by
  intro n
  induction n with
  | zero =>
    intro p l hl _ _
    have : l = [] := List.eq_nil_of_length_eq_zero (by omega)
    subst this
    rw [goX_end p [] rfl rfl]
    exact ⟨[], _, rfl, fun x hx => by cases hx⟩
  | succ n ih =>
    intro p l hl hl2 h
    obtain ⟨r, hr⟩ : ∃ r, firstP (l.drop (skip l)) = r := ⟨_, rfl⟩
    by_cases he : r.e = 0
    · by_cases hk : r.k = 0
      · rw [goX_end p l (by rw [hr]; exact he) (by rw [hr]; exact hk)]
        exact ⟨[], _, rfl, fun x hx => by cases hx⟩
      · obtain ⟨g, g2, g3⟩ := goX_step p l r hr he hk
        have h' : (goX (p + skip l + r.len) (l.drop (skip l + r.len))).e = 0 := by
          rw [g] at h; unfold Al.pre at h; split at h
          · assumption
          · exact h
        obtain ⟨d, q, hd, hall⟩ := ih _ _ (by rw [List.length_drop]; omega) (by rw [List.length_drop]; omega) h'
        have hne : l.drop (skip l) ≠ [] := fun h => hk (by rw [← hr]; exact (first_end (by rw [hr]; exact he)).2 h)
        obtain ⟨c, t, hdc⟩ : ∃ c t, l.drop (skip l) = c :: t := by
          cases hd : l.drop (skip l) with
          | nil => exact absurd hd hne
          | cons c r => exact ⟨c, r, rfl⟩
        refine ⟨⟨r.k, r.t, r.n, p + skip l⟩ :: d, q, ?_, fun x hx => ?_⟩
        · rw [g]; unfold Al.pre; rw [if_pos h', hd]; rfl
        · rcases List.mem_cons.1 hx with rfl | hx
          · refine ⟨hk, ?_, ?_⟩
            · have := first_again (c := c) (t := t) (by rw [← hdc, hr]; exact he) (p + skip l)
              rw [← hdc, hr] at this
              exact this
            · have := first_text (l.drop (skip l))
              rw [hr, List.length_drop] at this
              show r.t.length ≤ 16384
              omega
          · exact hall x hx
    · rw [goX_bad p l r.e (by rw [hr]) he] at h
      exact absurd h he
def rmk : Bs := [40, 42, 40, 42, 42, 41, 34, 42, 41]
/-- What is written ahead of each token: nothing ahead of the first, else a blank or a remark. -/
def SepF (f : Nat → Bs) : Prop := f 0 = [] ∧ ∀ i, 0 < i → f i = [32] ∨ f i = rmk
def bld (f : Nat → Bs) : Nat → List Tok → Bs
  | _, [] => []
  | i, x :: r => f i ++ (wr x ++ bld f (i + 1) r)
def plc (f : Nat → Bs) : Nat → Nat → List Tok → List Nat
  | _, _, [] => []
  | i, o, x :: r => (o + (f i).length) :: plc f (i + 1) (o + (f i).length + (wr x).length) r
def zipT : List Tok → List Nat → List Tok
  | x :: r, q :: s => ⟨x.k, x.t, x.n, q⟩ :: zipT r s
  | _, _ => []
theorem skip_sep {f : Nat → Bs} (hf : SepF f) (i : Nat) (Y : Bs) : skip (f i ++ Y) = (f i).length + skip Y := by
  have key : f i = [] ∨ f i = [32] ∨ f i = rmk := by
    rcases Nat.eq_zero_or_pos i with h | h
    · subst h; exact .inl hf.1
    · exact .inr (hf.2 i h)
  rcases key with h | h | h
  · rw [h]; simp
  · rw [h]; exact skip_blk (by decide)
  · rw [h]
    have hr : remN (rmk ++ Y) = 9 := rfl
    rw [skip_rem (by rw [hr]; omega), hr]; rfl
theorem bld_sep {f : Nat → Bs} (hf : SepF f) (i : Nat) (hi : 0 < i) : ∀ xs : List Tok, Sep (bld f i xs)
  | [] => .inl rfl
  | x :: r => by
    rw [bld]
    rcases hf.2 i hi with h | h
    · rw [h]; exact .inr (.inl ⟨_, rfl⟩)
    · rw [h]; exact .inr (.inr ⟨_, rfl⟩)
theorem bld_read {f : Nat → Bs} (hf : SepF f) (e : Nat) : ∀ (d : List Tok) (i o : Nat), (∀ x ∈ d, TokOk x) → goX o (bld f i (d ++ [⟨0, [], 0, e⟩])) = ⟨zipT (d ++ [⟨0, [], 0, e⟩]) (plc f i o (d ++ [⟨0, [], 0, e⟩])), 0, 0⟩
  | [], i, o, _ => by
    have e1 : bld f i [⟨0, [], 0, e⟩] = f i ++ [] := by simp [bld, wr]
    have hs := skip_sep hf i []
    rw [skip_nil, Nat.add_zero] at hs
    have hd : (f i ++ []).drop (skip (f i ++ [])) = [] := by rw [hs]; simp
    rw [List.nil_append, e1, goX_end o _ (by rw [hd]; rfl) (by rw [hd]; rfl), hs]; rfl
  | x :: d, i, o, h => by
    have hx := h x (by simp)
    have ih := bld_read hf e d (i + 1) (o + (f i).length + (wr x).length) (fun y hy => h y (by simp [hy]))
    rw [List.cons_append, bld, plc, zipT]
    obtain ⟨a1, a2⟩ := hx.again (bld f (i + 1) (d ++ [⟨0, [], 0, e⟩])) (bld_sep hf (i + 1) (by omega) _)
    generalize bld f (i + 1) (d ++ [⟨0, [], 0, e⟩]) = R at *
    have hs := skip_sep hf i (wr x ++ R)
    rw [a1, Nat.add_zero] at hs
    have hd : (f i ++ (wr x ++ R)).drop (skip (f i ++ (wr x ++ R))) = wr x ++ R := by rw [hs]; simp
    obtain ⟨g, _, _⟩ := goX_step o (f i ++ (wr x ++ R)) ⟨x.k, x.t, x.n, (wr x).length, 0⟩ (by rw [hd, a2]) rfl hx.kind
    rw [g, hs]
    simp only
    have hd2 : (f i ++ (wr x ++ R)).drop ((f i).length + (wr x).length) = R := by
      rw [← List.append_assoc, ← List.length_append]; simp
    rw [hd2, ih]
    rfl
theorem bld_snoc (f : Nat → Bs) (x : Tok) : ∀ (a : List Tok) (i : Nat), bld f i (a ++ [x]) = bld f i a ++ (f (i + a.length) ++ wr x)
  | [], i => by simp [bld]
  | y :: a, i => by rw [List.cons_append, bld, bld, bld_snoc f x a (i + 1), List.length_cons, show i + 1 + a.length = i + (a.length + 1) by omega]; simp
theorem plc_snoc (f : Nat → Bs) (x : Tok) : ∀ (a : List Tok) (i o : Nat), plc f i o (a ++ [x]) = plc f i o a ++ [o + (bld f i a).length + (f (i + a.length)).length]
  | [], i, o => by simp [plc, bld]
  | y :: a, i, o => by
    rw [List.cons_append, plc, plc, plc_snoc f x a (i + 1), bld, List.length_cons, show i + 1 + a.length = i + (a.length + 1) by omega, List.cons_append]
    congr 2
    simp; omega
theorem plc_len (f : Nat → Bs) : ∀ (a : List Tok) (i o : Nat), (plc f i o a).length = a.length
  | [], _, _ => rfl
  | x :: a, i, o => by rw [plc, List.length_cons, List.length_cons, plc_len f a]
theorem zipT_len : ∀ (a : List Tok) (b : List Nat), a.length = b.length → (zipT a b).length = a.length
  | [], [], _ => rfl
  | x :: a, y :: b, h => by rw [zipT, List.length_cons, List.length_cons, zipT_len a b (by simpa using h)]
  | [], _ :: _, h => by simp at h
  | _ :: _, [], h => by simp at h
theorem zipT_at : ∀ (a : List Tok) (b : List Nat) (i : Nat) (h : i < a.length) (h2 : i < b.length) (h3 : i < (zipT a b).length), (zipT a b)[i] = ⟨a[i].k, a[i].t, a[i].n, b[i]⟩
  | x :: a, y :: b, 0, _, _, _ => rfl
  | x :: a, y :: b, i + 1, h, h2, h3 => zipT_at a b i (by simpa using h) (by simpa using h2) (by simpa [zipT] using h3)
theorem wr_len {x : Tok} (h : x.t.length ≤ 16384) : (wr x).length ≤ 16400 := by
  have := D_len (b := 16) (u32 x.n)
  unfold wr
  split
  · simp; omega
  · split
    · simp; omega
    · split
      · simp; omega
      · omega
theorem sep_len {f : Nat → Bs} (hf : SepF f) (i : Nat) : (f i).length ≤ 9 := by
  rcases Nat.eq_zero_or_pos i with h | h
  · subst h; rw [hf.1]; simp
  · rcases hf.2 i h with h | h <;> rw [h] <;> decide
theorem bld_len {f : Nat → Bs} (hf : SepF f) : ∀ (a : List Tok) (i : Nat), (∀ x ∈ a, x.t.length ≤ 16384) → (bld f i a).length ≤ a.length * 16409
  | [], _, _ => by simp [bld]
  | x :: a, i, h => by
    have ih := bld_len hf a (i + 1) (fun y hy => h y (by simp [hy]))
    have h1 := wr_len (h x (by simp))
    have h2 := sep_len hf i
    rw [bld, List.length_append, List.length_append, List.length_cons]; omega
end Go.Proofs.YtphogfomlmjeiaaDoor
