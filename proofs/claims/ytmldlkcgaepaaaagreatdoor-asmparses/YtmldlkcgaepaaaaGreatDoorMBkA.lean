/-
  Layer 6, plain: digits and texts that are put together are read back. Nothing of the program's run is in this text.
  Layer 6, plain: each word is read from the line that is written of it. Nothing of the program's run is in this text.
  Layer 6, plain: words are read from their text as they are. Nothing of the program's run is in this text.
  The walk of the law AsmOne: it returns true.
-/
import Derived.Test.YtmldlkcgaepaaaaGreatDoorMPp
import Derived.Test.YtmldlkcgaepaaaaGreatDoorMT1
import Derived.Test.YtmldlkcgaepaaaaGreatDoorMShn6
namespace Go.Proofs.YtmldlkcgaepaaaaGreatDoor
set_option linter.unusedVariables false
set_option linter.unusedSimpArgs false

theorem dec_small {u : Nat} (h : u < 10) : Lib.decDigits u = [UInt8.ofNat (48 + u)] := by rw [Lib.decDigits, dif_pos h]
theorem dec_big {u : Nat} (h : ¬ u < 10) : Lib.decDigits u = Lib.decDigits (u / 10) ++ [UInt8.ofNat (48 + u % 10)] := by rw [Lib.decDigits, dif_neg h]
theorem dig_nat {d : Nat} (h : d < 10) : (UInt8.ofNat (48 + d)).toNat = 48 + d := by simp; omega
theorem dec_all : ∀ (n u : Nat), u ≤ n → ∀ c ∈ Lib.decDigits u, 48 ≤ c.toNat ∧ c.toNat ≤ 57
  | n, u, hn, c, hc => by
    by_cases h : u < 10
    · rw [dec_small h] at hc
      simp only [List.mem_singleton] at hc
      rw [hc, dig_nat h]; omega
    · rw [dec_big h] at hc
      rcases List.mem_append.1 hc with h1 | h1
      · match n with
        | 0 => omega
        | n + 1 => exact dec_all n (u / 10) (by omega) c h1
      · simp only [List.mem_singleton] at h1
        rw [h1, dig_nat (by omega)]; omega
theorem dec_ne (u : Nat) : Lib.decDigits u ≠ [] := by
  by_cases h : u < 10
  · rw [dec_small h]; simp
  · rw [dec_big h]; simp
theorem uintM_dec (M : Nat) (hM : M ≤ 18446744073709551615) : ∀ (n u : Nat) (r : Bs), u ≤ n → u ≤ M → Lib.parseUintM M 0 (Lib.decDigits u ++ r) = Lib.parseUintM M u r
  | n, u, r, hn, hu => by
    by_cases h : u < 10
    · rw [dec_small h, List.singleton_append, Lib.parseUintM, dig_nat h, if_pos (by omega), if_neg (by omega), if_neg (by omega)]
      congr 1; omega
    · rw [dec_big h, List.append_assoc]
      match n with
      | 0 => omega
      | n + 1 =>
        rw [uintM_dec M hM n (u / 10) _ (by omega) (by omega), List.singleton_append, Lib.parseUintM, dig_nat (by omega), if_pos (by omega), if_neg (by omega), if_neg (by omega)]
        congr 1; omega
theorem uint10_dec : ∀ (n u : Nat) (r : Bs), u ≤ n → u ≤ 18446744073709551615 → Lib.parseUint10 0 (Lib.decDigits u ++ r) = Lib.parseUint10 u r
  | n, u, r, hn, hu => by
    by_cases h : u < 10
    · rw [dec_small h, List.singleton_append, Lib.parseUint10, dig_nat h, if_pos (by omega), if_neg (by omega), if_neg (by omega)]
      congr 1; omega
    · rw [dec_big h, List.append_assoc]
      match n with
      | 0 => omega
      | n + 1 =>
        rw [uint10_dec n (u / 10) _ (by omega) (by omega), List.singleton_append, Lib.parseUint10, dig_nat (by omega), if_pos (by omega), if_neg (by omega), if_neg (by omega)]
        congr 1; omega
theorem uint32_dec (u : Nat) (h : u ≤ 4294967295) : Lib.parseUintB 32 (Lib.decDigits u) = .ok u := by
  have := uintM_dec 4294967295 (by omega) u u [] (Nat.le_refl _) h
  rw [List.append_nil] at this
  rw [Lib.parseUintB, if_neg (dec_ne u)]
  exact this
theorem mag_dec (u : Nat) (h : u ≤ 18446744073709551615) : Lib.parseMag (Lib.decDigits u) = .ok u := by
  have := uint10_dec u u [] (Nat.le_refl _) h
  rw [List.append_nil] at this
  rw [Lib.parseMag, if_neg (dec_ne u)]
  exact this
theorem atoi_itoa (n : Int) (h0 : -9223372036854775808 ≤ n) (h1 : n ≤ 9223372036854775807) : Lib.atoiAll (Lib.itoa n) = .ok n := by
  unfold Lib.itoa
  by_cases hn : n < 0
  · rw [if_pos hn, Lib.atoiAll]
    have e : (45 : UInt8).toNat = 45 := rfl
    simp only [e, or_true, if_true, mag_dec n.natAbs (by omega)]
    rw [if_neg (by simp), if_neg (by omega)]
    congr 1; omega
  · rw [if_neg hn]
    cases hd : Lib.decDigits n.toNat with
    | nil => exact absurd hd (dec_ne _)
    | cons c r =>
      have hc := dec_all n.toNat n.toNat (Nat.le_refl _) c (by rw [hd]; simp)
      have hm := mag_dec n.toNat (by omega)
      rw [hd] at hm
      rw [Lib.atoiAll]
      have e1 : ¬ (c.toNat = 43 ∨ c.toNat = 45) := by omega
      simp only [e1, if_false, hm]
      rw [if_neg (by omega), if_neg (by omega), if_neg (by omega)]
      congr 1; omega
theorem num_back (n : Int) (h0 : -9223372036854775808 ≤ n) (h1 : n ≤ 9223372036854775807) : numOf (Lib.itoa n) = some n := by
  rw [numOf, atoi_itoa n h0 h1]; simp

/-- A sign of names and operands. -/
def okc (c : UInt8) : Bool := (decide (48 ≤ c.toNat) && decide (c.toNat ≤ 57)) || (decide (65 ≤ c.toNat) && decide (c.toNat ≤ 90)) || decide (c.toNat = 45)
theorem okc_not {c : UInt8} (h : okc c = true) : c ≠ 32 ∧ c ≠ 9 ∧ c ≠ 13 ∧ c ≠ 59 ∧ c ≠ 44 ∧ c ≠ 10 := by
  refine ⟨?_, ?_, ?_, ?_, ?_, ?_⟩ <;> (intro e; subst e; revert h; decide)
theorem okc_blk {c : UInt8} (h : okc c = true) : blk c = false := by
  obtain ⟨h1, h2, h3, _⟩ := okc_not h
  simp [blk, h1, h2, h3]
def okL (l : Bs) : Prop := ∀ c ∈ l, okc c = true
theorem okL_app {a b : Bs} (h : okL a) (g : okL b) : okL (a ++ b) := fun c hc => (List.mem_append.1 hc).elim (h c) (g c)
theorem itoa_ok (n : Int) : okL (Lib.itoa n) := by
  intro c hc
  unfold Lib.itoa at hc
  have key : ∀ u, c ∈ Lib.decDigits u → okc c = true := fun u hu => by
    have := dec_all u u (Nat.le_refl _) c hu
    simp [okc, this]
  split at hc
  · rcases List.mem_cons.1 hc with rfl | h
    · decide
    · exact key _ h
  · exact key _ hc
theorem itoa_ne (n : Int) : Lib.itoa n ≠ [] := by
  unfold Lib.itoa
  split
  · simp
  · exact dec_ne _
theorem drop_none {p : UInt8 → Bool} : ∀ {l : Bs}, (∀ x, l.head? = some x → p x = false) → l.dropWhile p = l
  | [], _ => rfl
  | x :: r, h => by rw [List.dropWhile_cons, h x rfl]; simp
theorem trim_mid {a z : Bs} (m : Bs) (ha : a ≠ []) (hz : z ≠ []) (oa : okL a) (oz : okL z) : trimP (a ++ m ++ z) = a ++ m ++ z := by
  rw [trimP_eq]
  have h1 : (a ++ m ++ z).reverse.dropWhile blk = (a ++ m ++ z).reverse := drop_none (fun x hx => by
    rw [List.reverse_append] at hx
    cases hr : z.reverse with
    | nil => exact absurd (by simpa using hr) hz
    | cons y r =>
      rw [hr] at hx
      simp at hx
      subst hx
      exact okc_blk (oz y (by rw [← List.mem_reverse, hr]; simp)))
  rw [h1, List.reverse_reverse]
  refine drop_none (fun x hx => ?_)
  cases a with
  | nil => exact absurd rfl ha
  | cons y r =>
    simp at hx
    subst hx
    exact okc_blk (oa y (by simp))
theorem trim_ok {l : Bs} (h : okL l) : trimP l = l := by
  rw [trimP_eq]
  have h1 : l.reverse.dropWhile blk = l.reverse := drop_none (fun x hx => okc_blk (h x (List.mem_reverse.1 (List.mem_of_mem_head? hx))))
  rw [h1, List.reverse_reverse]
  exact drop_none (fun x hx => okc_blk (h x (List.mem_of_mem_head? hx)))
theorem trim_sp {l : Bs} (h : okL l) (hn : l ≠ []) : trimP (32 :: l) = l := by
  rw [trimP_eq, List.reverse_cons]
  have h1 : (l.reverse ++ [32]).dropWhile blk = l.reverse ++ [32] := drop_none (fun x hx => by
    cases hr : l.reverse with
    | nil => exact absurd (by simpa using hr) hn
    | cons y r =>
      rw [hr] at hx
      simp at hx
      subst hx
      exact okc_blk (h y (by rw [← List.mem_reverse, hr]; simp)))
  rw [h1, List.reverse_append, List.reverse_reverse, List.reverse_singleton, List.singleton_append, List.dropWhile_cons, if_pos (by decide)]
  exact drop_none (fun x hx => okc_blk (h x (List.mem_of_mem_head? hx)))
theorem join_cons2 (x y : Bs) (r : List Bs) (sep : Bs) : Lib.join (x :: y :: r) sep = x ++ (sep ++ Lib.join (y :: r) sep) := by simp [Lib.join, List.intercalate]
theorem join_one (x : Bs) (sep : Bs) : Lib.join [x] sep = x := by simp [Lib.join]
theorem no44 {l : Bs} (h : okL l) : (44 : UInt8) ∉ l := fun hm => (okc_not (h 44 hm)).2.2.2.2.1 rfl
theorem parts_join : ∀ (xs : List Bs) (x p : Bs), (44 : UInt8) ∉ p → okL x → (∀ y ∈ xs, okL y) → parts 44 (p ++ Lib.join (x :: xs) [44, 32]) = (p ++ x) :: xs.map (32 :: ·)
  | [], x, p, hp, hx, _ => by
    rw [join_one, parts_free (by simp [hp, no44 hx])]; rfl
  | y :: r, x, p, hp, hx, h => by
    rw [join_cons2, show p ++ (x ++ ([44, 32] ++ Lib.join (y :: r) [44, 32])) = (p ++ x) ++ 44 :: ([32] ++ Lib.join (y :: r) [44, 32]) by simp]
    rw [parts_app _ (by simp [hp, no44 hx]), parts_join r y [32] (by decide) (h y (by simp)) (fun z hz => h z (by simp [hz]))]
    rfl
theorem ops_back (x : Bs) (xs : List Bs) (hx : okL x) (h : ∀ y ∈ xs, okL y ∧ y ≠ []) : operandsP (Lib.join (x :: xs) [44, 32]) = x :: xs := by
  have := parts_join xs x [] (by simp) hx (fun y hy => (h y hy).1)
  rw [List.nil_append, List.nil_append] at this
  rw [operandsP, this, List.map_cons, trim_ok hx, List.map_map]
  congr 1
  have : ∀ l : List Bs, (∀ y ∈ l, okL y ∧ y ≠ []) → l.map (trimP ∘ fun y => 32 :: y) = l := by
    intro l hl
    induction l with
    | nil => rfl
    | cons y r ih =>
      rw [List.map_cons, ih (fun z hz => hl z (by simp [hz]))]
      simp only [Function.comp]
      rw [trim_sp (hl y (by simp)).1 (hl y (by simp)).2]
  exact this xs h
theorem join_last (z : Bs) : ∀ (xs : List Bs), ∃ m, Lib.join (xs ++ [z]) [44, 32] = m ++ z
  | [] => ⟨[], by simp [Lib.join]⟩
  | x :: r => by
    obtain ⟨m, hm⟩ := join_last z r
    cases r with
    | nil => exact ⟨x ++ [44, 32], by simp [Lib.join, List.intercalate]⟩
    | cons y t =>
      refine ⟨x ++ ([44, 32] ++ m), ?_⟩
      rw [List.cons_append, List.cons_append, join_cons2, ← List.cons_append, hm]; simp
theorem cut_at {p : UInt8 → Bool} {a : Bs} {c : UInt8} {r : Bs} (ha : ∀ x ∈ a, p x = false) (hc : p c = true) : cutB p (a ++ c :: r) = a ∧ cutR p (a ++ c :: r) = r := by
  induction a with
  | nil => simp [cutB, cutR, hc]
  | cons x a ih =>
    have hx := ha x (by simp)
    have := ih (fun y hy => ha y (by simp [hy]))
    rw [List.cons_append, cutB_cons, cutR_cons, hx]
    simp [this]
theorem cut_none {p : UInt8 → Bool} {l : Bs} (h : ∀ x ∈ l, p x = false) : cutB p l = l := by
  induction l with
  | nil => rfl
  | cons x r ih => rw [cutB_cons, h x (by simp), ih (fun y hy => h y (by simp [hy]))]; simp
/-- What stands in a line: signs, blanks and commas. -/
def okl (c : UInt8) : Prop := okc c = true ∨ c = 32 ∨ c = 44
theorem okl_not {c : UInt8} (h : okl c) : c ≠ 59 ∧ c ≠ 10 := by
  rcases h with h | rfl | rfl
  · exact ⟨(okc_not h).2.2.2.1, (okc_not h).2.2.2.2.2⟩
  · decide
  · decide
theorem join_okl : ∀ (xs : List Bs), (∀ y ∈ xs, okL y) → ∀ c ∈ Lib.join xs [44, 32], okl c
  | [], _, c, hc => by simp [Lib.join] at hc
  | [x], h, c, hc => by rw [join_one] at hc; exact .inl (h x (by simp) c hc)
  | x :: y :: r, h, c, hc => by
    rw [join_cons2] at hc
    rcases List.mem_append.1 hc with h1 | h1
    · exact .inl (h x (by simp) c h1)
    · rcases List.mem_append.1 h1 with h2 | h2
      · simp at h2
        rcases h2 with rfl | rfl
        · exact .inr (.inr rfl)
        · exact .inr (.inl rfl)
      · exact join_okl (y :: r) (fun z hz => h z (by simp only [List.mem_cons] at hz ⊢; exact .inr hz)) c h2
/-- A line of a name and operands is read as such. -/
theorem line_back (name : Bs) (xs : List Bs) (z : Bs) (hn : name ≠ []) (on : okL name) (hz : z ≠ []) (h : ∀ y ∈ xs ++ [z], okL y ∧ y ≠ []) :
    saidP (name ++ [32] ++ Lib.join (xs ++ [z]) [44, 32]) = name ++ [32] ++ Lib.join (xs ++ [z]) [44, 32] ∧ (∀ c ∈ name ++ [32] ++ Lib.join (xs ++ [z]) [44, 32], okl c) ∧
    cutB blanks.contains (name ++ [32] ++ Lib.join (xs ++ [z]) [44, 32]) = name ∧ operandsP (cutR blanks.contains (name ++ [32] ++ Lib.join (xs ++ [z]) [44, 32])) = xs ++ [z] := by
  have ho : ∀ c ∈ name ++ [32] ++ Lib.join (xs ++ [z]) [44, 32], okl c := fun c hc => by
    rcases List.mem_append.1 hc with h1 | h1
    · rcases List.mem_append.1 h1 with h2 | h2
      · exact .inl (on c h2)
      · simp at h2; exact .inr (.inl h2)
    · exact join_okl _ (fun y hy => (h y hy).1) c h1
  have hcut : cutB [59].contains (name ++ [32] ++ Lib.join (xs ++ [z]) [44, 32]) = name ++ [32] ++ Lib.join (xs ++ [z]) [44, 32] := cut_none (fun c hc => by
    have := (okl_not (ho c hc)).1
    simp [this])
  obtain ⟨m, hm⟩ := join_last z xs
  have hoz := (h z (by simp)).1
  have hb : ∀ c ∈ name, blanks.contains c = false := fun c hc => by rw [blk_contains]; exact okc_blk (on c hc)
  have hca := cut_at (p := blanks.contains) (a := name) (c := 32) (r := Lib.join (xs ++ [z]) [44, 32]) hb (by decide)
  have e : name ++ [32] ++ Lib.join (xs ++ [z]) [44, 32] = name ++ 32 :: Lib.join (xs ++ [z]) [44, 32] := by simp
  refine ⟨?_, ho, ?_, ?_⟩
  · rw [saidP, hcut, hm, show name ++ [32] ++ (m ++ z) = name ++ ([32] ++ m) ++ z by simp]
    exact trim_mid _ hn hz on hoz
  · rw [e]; exact hca.1
  · rw [e, hca.2]
    cases hx : xs ++ [z] with
    | nil => simp at hx
    | cons y r =>
      rw [hx] at h
      exact ops_back y r (h y (by simp)).1 (fun t ht => h t (by simp [ht]))
end Go.Proofs.YtmldlkcgaepaaaaGreatDoor
namespace Go.Proofs.YtmldlkcgaepaaaaGreatDoor
set_option linter.unusedVariables false
set_option linter.unusedSimpArgs false

theorem reg_inj {m n : Nat} (hm : m < 100) (hn : n < 100) (h : regP (m : Int) = regP (n : Int)) : m = n := by
  have h2 : Lib.itoa (m : Int) = Lib.itoa (n : Int) := by simpa [regP] using h
  have e1 := atoi_itoa (m : Int) (by omega) (by omega)
  rw [h2, atoi_itoa (n : Int) (by omega) (by omega)] at e1
  injection e1 with e1
  omega
theorem reg_look : ∀ (k n : Nat), k < 100 → n < k → look (regL k) (regP (n : Int)) = some ((n : Nat) : Int)
  | 0, n, _, h => by omega
  | k + 1, n, hk, h => by
    rw [regL, look_cons]
    by_cases e : regP (k : Int) = regP (n : Int)
    · have := reg_inj (by omega) (by omega) e
      rw [if_pos e, this]
    · rw [if_neg e]
      exact reg_look k n (by omega) (by
        have : k ≠ n := fun hh => e (by rw [hh])
        omega)
theorem cond_tab : ((List.range 16).all fun n => (look (condL 16) (condName (n : Nat))) == some ((n : Nat) : Int)) = true := by kernel_rfl
theorem cond_back (n : Int) (h0 : 0 ≤ n) (h1 : n < 16) : condOf (condName n) = some n := by
  obtain ⟨m, rfl⟩ := Int.eq_ofNat_of_zero_le h0
  have := List.all_eq_true.1 cond_tab m (by simp; omega)
  simpa [condOf] using this
theorem reg_back (n : Int) (h0 : 0 ≤ n) (h1 : n < 16) : regOf (regP n) = some n := by
  obtain ⟨m, rfl⟩ := Int.eq_ofNat_of_zero_le h0
  exact reg_look 16 m (by omega) (by omega)
theorem reg_none : ∀ (k : Nat) (s : Bs), s.head? ≠ some 82 → look (regL k) s = none
  | 0, s, _ => rfl
  | k + 1, s, h => by
    rw [regL, look_cons, if_neg (fun e => h (by rw [← e]; simp [regP])), reg_none k s h]
theorem itoa_head (n : Int) : (Lib.itoa n).head? ≠ some 82 := fun h => by
  have h2 : okc 82 = true := by decide
  have hm := List.mem_of_mem_head? h
  unfold Lib.itoa at hm
  split at hm
  · rcases List.mem_cons.1 hm with e | hm
    · exact absurd e (by decide)
    · have := dec_all _ _ (Nat.le_refl _) _ hm; revert this; decide
  · have := dec_all _ _ (Nat.le_refl _) _ hm; revert this; decide
theorem num_noreg (n : Int) : regOf (Lib.itoa n) = none := reg_none 16 _ (itoa_head n)
theorem way_back (a n : Int) (h0 : -8388608 ≤ n) (h1 : n ≤ 8388607) : wordsTo (Lib.itoa (toP a n)) a = some n := by
  have hb : 0 ≤ toP a n ∧ toP a n ≤ 4294967295 := by unfold toP; omega
  have e1 : Lib.itoa (toP a n) = Lib.decDigits (toP a n).toNat := by rw [Lib.itoa, if_neg (by omega)]
  have e2 : Lib.parseUintB 32 (Lib.itoa (toP a n)) = .ok (toP a n).toNat := by rw [e1]; exact uint32_dec _ (by omega)
  have e3 : ((toP a n).toNat : Int) = toP a n := Int.toNat_of_nonneg hb.1
  have e4 : wayOf (toP a n) a = 4 * n := by
    unfold wayOf toP
    rw [show ((a + 4 + 4 * n) % 4294967296 - (a + 4)) % 4294967296 = 4 * n % 4294967296 by omega]
    unfold sext
    rw [if_pos (by omega)]
    unfold sx
    simp
    split <;> omega
  rw [wordsTo, e2]
  simp only [e3, if_true, e4]
  rw [if_pos (Int.mul_tmod_right 4 n)]
  congr 1
  exact Int.mul_tdiv_cancel_left n (by decide)
/-- An instruction's sort, its operands none. -/
def baseI (i : In) : In := { i with A := 0, B := 0, C := 0, N := 0 }
theorem base_name (i : In) : nameP (baseI i) = nameP i := rfl
theorem base_kinds (i : In) : kindsP (baseI i) = kindsP i := rfl
theorem base_right {i : In} (h : rightB i = true) : rightB (baseI i) = true := by
  unfold rightB at h ⊢
  simp only [Bool.and_eq_true, regB, decide_eq_true_eq] at h
  obtain ⟨_, _, _, h⟩ := h
  have hr : ropB i = true → ropB (baseI i) = true := fun hh => by
    unfold ropB at hh ⊢
    simp only [Bool.and_eq_true] at hh ⊢
    exact ⟨hh.1, by simp [baseI]⟩
  simp only [baseI, regB] at hr ⊢
  split at h
  · rename_i hF
    simp only [Bool.and_eq_true] at h
    rw [hF] at hr
    simp [hF]
    exact hr h.2
  · split at h
    · rename_i hF
      simp only [Bool.and_eq_true] at h
      rw [hF] at hr
      simp [hF]
      exact hr h.2.2.2
    · split at h
      · rename_i hF
        simp only [Bool.and_eq_true] at h
        simp [hF, fit20]
        exact h.2.1
      · split at h
        · rename_i hF
          simp only [Bool.and_eq_true] at h
          simp [hF, targetB, fit24]
          exact h.2.1
        · cases h

/-! The names: each sort is found by its name. -/
def sameI (i j : In) : Bool := i.F == j.F && i.U == j.U && i.V == j.V && i.A == j.A && i.B == j.B && i.O == j.O && i.C == j.C && i.N == j.N
theorem same_eq {i j : In} (h : sameI i j = true) : i = j := by
  simp only [sameI, Bool.and_eq_true, beq_iff_eq] at h
  obtain ⟨⟨⟨⟨⟨⟨⟨h1, h2⟩, h3⟩, h4⟩, h5⟩, h6⟩, h7⟩, h8⟩ := h
  cases i; cases j
  simp_all
def okOpt (i : In) : Option In → Bool
  | none => false
  | some j => sameI i j
theorem okOpt_eq {i : In} {o : Option In} (h : okOpt i o = true) : o = some i := by
  cases o with
  | none => cases h
  | some j => rw [same_eq h]
def isOk (l : Bs) : Bool := l.all okc && !l.isEmpty
def sortsOk : Bool := (List.range 256).all fun q => !rightB (inOf (q / 64) (q / 4 % 16) (q % 4)) ||
  (okOpt (inOf (q / 64) (q / 4 % 16) (q % 4)) (look (if numK (inOf (q / 64) (q / 4 % 16) (q % 4)) then (allN 64).n else (allN 64).r) (nameP (inOf (q / 64) (q / 4 % 16) (q % 4)))) &&
    (isOk (nameP (inOf (q / 64) (q / 4 % 16) (q % 4))) && !(nameP (inOf (q / 64) (q / 4 % 16) (q % 4)) == wordT)))
theorem sorts_ok : sortsOk = true := by kernel_rfl
def condsOk : Bool := (List.range 16).all fun n => isOk (condName (n : Nat))
theorem conds_ok : condsOk = true := by kernel_rfl
theorem sort_ok {i : In} (h : rightB i = true) : look (if numK i then (allN 64).n else (allN 64).r) (nameP i) = some (baseI i) ∧ okL (nameP i) ∧ nameP i ≠ [] ∧ nameP i ≠ wordT := by
  have hb := base_right h
  have hf := (right_bd h).F
  obtain ⟨f, o, m, hfo, hm, e⟩ : ∃ f o m : Nat, (f < 4 ∧ o < 16) ∧ m < 4 ∧ baseI i = inOf f o m := by
    refine ⟨i.F.toNat, i.O.toNat, (if i.U then 2 else 0) + (if i.V then 1 else 0), by omega, by split <;> split <;> omega, ?_⟩
    have e1 : ((i.F.toNat : Nat) : Int) = i.F := by omega
    have e2 : ((i.O.toNat : Nat) : Int) = i.O := by omega
    unfold baseI inOf
    rw [e1, e2]
    cases hU : i.U <;> cases hV : i.V <;> simp
  have := List.all_eq_true.1 sorts_ok (f * 64 + o * 4 + m) (by simp; omega)
  rw [show (f * 64 + o * 4 + m) / 64 = f by omega, show (f * 64 + o * 4 + m) / 4 % 16 = o by omega, show (f * 64 + o * 4 + m) % 4 = m by omega, ← e, hb] at this
  simp only [Bool.not_true, Bool.false_or, Bool.and_eq_true] at this
  obtain ⟨h1, h2, h3⟩ := this
  have hn : numK (baseI i) = numK i := rfl
  rw [base_name, hn] at h1
  rw [base_name] at h2 h3
  simp only [isOk, Bool.and_eq_true] at h2
  refine ⟨okOpt_eq h1, fun c hc => List.all_eq_true.1 h2.1 c hc, ?_, ?_⟩
  · intro e; rw [e] at h2; simp at h2
  · intro e; rw [e] at h3; simp at h3
theorem cond_ok (n : Int) (h0 : 0 ≤ n) (h1 : n < 16) : okL (condName n) ∧ condName n ≠ [] := by
  obtain ⟨m, rfl⟩ := Int.eq_ofNat_of_zero_le h0
  have := List.all_eq_true.1 conds_ok m (by simp; omega)
  simp only [isOk, Bool.and_eq_true] at this
  exact ⟨fun c hc => List.all_eq_true.1 this.1 c hc, fun e => by rw [e] at this; simp at this⟩
theorem reg_ok (n : Int) : okL (regP n) ∧ regP n ≠ [] := ⟨okL_app (by intro c hc; simp at hc; subst hc; decide) (itoa_ok n), by simp [regP]⟩
theorem num_ok (n : Int) : okL (Lib.itoa n) ∧ Lib.itoa n ≠ [] := ⟨itoa_ok n, itoa_ne n⟩
theorem right_rop {i : In} (h : rightB i = true) (hF : i.F = 0 ∨ i.F = 1) : ropB i = true := by
  unfold rightB at h
  simp only [Bool.and_eq_true] at h
  obtain ⟨_, _, _, h⟩ := h
  rcases hF with hF | hF
  · rw [if_pos hF] at h; simp only [Bool.and_eq_true] at h; exact h.2
  · rw [if_neg (by omega), if_pos hF] at h; simp only [Bool.and_eq_true] at h; exact h.2.2.2
theorem rop_mov {i : In} (h : ropB i = true) (hO : i.O = 0) : i.B = 0 ∧ (i.U = true → i.C = 0) := by
  unfold ropB at h
  simp only [Bool.and_eq_true] at h
  have h2 := h.2
  rw [if_pos hO] at h2
  simp only [Bool.and_eq_true, decide_eq_true_eq, Bool.or_eq_true, Bool.not_eq_true'] at h2
  exact ⟨h2.1, fun hU => by rcases h2.2 with e | e; · rw [hU] at e; cases e
                            · exact e⟩
theorem rop_trap0 {i : In} (h : ropB i = true) (hO : i.O = 15) : i.A = 0 ∧ i.B = 0 := by
  unfold ropB at h
  simp only [Bool.and_eq_true] at h
  have h2 := h.2
  rw [if_neg (by omega), if_pos hO] at h2
  simpa using h2
theorem rop_ways0 {i : In} (h : ropB i = true) (hF : i.F = 0) : i.O ≠ 15 := by
  intro hO
  unfold ropB at h
  simp only [Bool.and_eq_true] at h
  have h2 := h.1.2
  rw [hO, hF] at h2
  generalize i.U = U at h2
  generalize i.V = V at h2
  cases U <;> cases V <;> revert h2 <;> decide
theorem fill_nil (a : Int) (i : In) (ss : List Bs) : fillP a i [] ss = some i := by cases ss <;> rfl
theorem fill_cons (a : Int) (i : In) (k : UInt8) (ks : Bs) (s : Bs) (ss : List Bs) : fillP a i (k :: ks) (s :: ss) = (withP i k s a).bind fun i' => fillP a i' ks ss := rfl
/-- What is read of the operands of a right instruction is it again. -/
theorem filled_back {i : In} (a : Int) (h : rightB i = true) : ∃ xs z, (kindsP i).map (operandP i a) = xs ++ [z] ∧ (∀ y ∈ xs ++ [z], okL y ∧ y ≠ []) ∧ (regOf z).isSome = !numK i ∧ filledP (baseI i) (xs ++ [z]) a = some i := by
  have hb := right_bd h
  obtain ⟨hA, hB, hC, hF⟩ := hb
  have rA := reg_back i.A hA.1 hA.2
  have rB := reg_back i.B hB.1 hB.2
  have rC := reg_back i.C hC.1 hC.2
  have cA := cond_back i.A hA.1 hA.2
  have oA := cond_ok i.A hA.1 hA.2
  have okA := reg_ok i.A
  have okB := reg_ok i.B
  have okC := reg_ok i.C
  have okN := num_ok i.N
  have okT := num_ok (toP a i.N)
  have nN := num_noreg i.N
  have nT := num_noreg (toP a i.N)
  rcases hF with ⟨hF, hN, hO⟩ | ⟨hF, hC0, hN0, hN1, hO⟩ | ⟨hF, hC0, hO, hN0, hN1⟩ | ⟨hF, hB0, hO, hU⟩
  · -- registers
    have hr := right_rop h (.inl hF)
    have hnum := num_back i.N (by omega) (by omega)
    by_cases hT : i.O = 15
    · have := rop_ways0 hr hF; omega
    · by_cases hO0 : i.O = 0
      · have hz := rop_mov hr hO0
        cases hU : i.U with
        | true =>
          refine ⟨[], regP i.A, by simp [kindsP, takesP, hF, hO0, hU, operandP], by simpa using okA, by simp [rA, numK, kindsP, takesP, hF, hO0, hU], ?_⟩
          have hC2 := hz.2 hU
          simp [filledP, base_kinds, kindsP, takesP, hF, hO0, hU, fill_cons, fill_nil, withP, rA]
          obtain ⟨F, U, V, A, B, O, C, N⟩ := i
          simp_all [baseI, fill_cons, fill_nil, withP]
        | false =>
          refine ⟨[regP i.A], regP i.C, by simp [kindsP, takesP, lastP, hF, hO0, hU, operandP], by simpa using ⟨okA, okC⟩, by simp [rC, numK, kindsP, takesP, lastP, hF, hO0, hU], ?_⟩
          simp [filledP, base_kinds, kindsP, takesP, lastP, hF, hO0, hU, fill_cons, fill_nil, withP, rA, rC]
          obtain ⟨F, U, V, A, B, O, C, N⟩ := i
          simp_all [baseI, fill_cons, fill_nil, withP]
      · refine ⟨[regP i.A, regP i.B], regP i.C, by simp [kindsP, takesP, lastP, hF, hO0, hT, operandP], by simpa using ⟨okA, okB, okC⟩, by simp [rC, numK, kindsP, takesP, lastP, hF, hO0, hT], ?_⟩
        simp [filledP, base_kinds, kindsP, takesP, lastP, hF, hO0, hT, fill_cons, fill_nil, withP, rA, rB, rC]
        obtain ⟨F, U, V, A, B, O, C, N⟩ := i
        simp_all [baseI, fill_cons, fill_nil, withP]
  · have hr := right_rop h (.inr hF)
    have hnum := num_back i.N (by omega) (by omega)
    by_cases hT : i.O = 15
    · have hz := rop_trap0 hr hT
      refine ⟨[], Lib.itoa i.N, by simp [kindsP, takesP, hF, hT, operandP], by simpa using okN, by simp [nN, numK, kindsP, takesP, hF, hT], ?_⟩
      simp [filledP, base_kinds, kindsP, takesP, hF, hT, fill_cons, fill_nil, withP, hnum]
      obtain ⟨F, U, V, A, B, O, C, N⟩ := i
      simp_all [baseI, fill_cons, fill_nil, withP]
    · by_cases hO0 : i.O = 0
      · have hz := rop_mov hr hO0
        refine ⟨[regP i.A], Lib.itoa i.N, by simp [kindsP, takesP, lastP, hF, hO0, operandP], by simpa using ⟨okA, okN⟩, by simp [nN, numK, kindsP, takesP, lastP, hF, hO0], ?_⟩
        simp [filledP, base_kinds, kindsP, takesP, lastP, hF, hO0, fill_cons, fill_nil, withP, rA, hnum]
        obtain ⟨F, U, V, A, B, O, C, N⟩ := i
        simp_all [baseI, fill_cons, fill_nil, withP]
      · refine ⟨[regP i.A, regP i.B], Lib.itoa i.N, by simp [kindsP, takesP, lastP, hF, hO0, hT, operandP], by simpa using ⟨okA, okB, okN⟩, by simp [nN, numK, kindsP, takesP, lastP, hF, hO0, hT], ?_⟩
        simp [filledP, base_kinds, kindsP, takesP, lastP, hF, hO0, hT, fill_cons, fill_nil, withP, rA, rB, hnum]
        obtain ⟨F, U, V, A, B, O, C, N⟩ := i
        simp_all [baseI, fill_cons, fill_nil, withP]
  · have hnum := num_back i.N (by omega) (by omega)
    refine ⟨[regP i.A, regP i.B], Lib.itoa i.N, by simp [kindsP, hF, operandP], by simpa using ⟨okA, okB, okN⟩, by simp [nN, numK, kindsP, hF], ?_⟩
    simp [filledP, base_kinds, kindsP, hF, fill_cons, fill_nil, withP, rA, rB, hnum]
    obtain ⟨F, U, V, A, B, O, C, N⟩ := i
    simp_all [baseI, fill_cons, fill_nil, withP]
  · rcases hU with ⟨hU, hC0, hN0, hN1⟩ | ⟨hU, hN0⟩
    · have hw := way_back a i.N hN0 hN1
      refine ⟨[condName i.A], Lib.itoa (toP a i.N), by simp [kindsP, hF, hU, operandP], by simpa using ⟨oA, okT⟩, by simp [nT, numK, kindsP, hF, hU], ?_⟩
      simp [filledP, base_kinds, kindsP, hF, hU, fill_cons, fill_nil, withP, cA, hw]
      obtain ⟨F, U, V, A, B, O, C, N⟩ := i
      simp_all [baseI, fill_cons, fill_nil, withP]
    · refine ⟨[condName i.A], regP i.C, by simp [kindsP, hF, hU, operandP], by simpa using ⟨oA, okC⟩, by simp [rC, numK, kindsP, hF, hU], ?_⟩
      simp [filledP, base_kinds, kindsP, hF, hU, fill_cons, fill_nil, withP, cA, rC]
      obtain ⟨F, U, V, A, B, O, C, N⟩ := i
      simp_all [baseI, fill_cons, fill_nil, withP]
end Go.Proofs.YtmldlkcgaepaaaaGreatDoor
namespace Go.Proofs.YtmldlkcgaepaaaaGreatDoor
set_option linter.unusedVariables false
set_option linter.unusedSimpArgs false

theorem hex_at (x : Int) (i : Nat) (h : i < 8) : sB (hexS x 8) i = hdg x (7 - i) := by
  have h2 := hl_get x 8 i h
  have hll := hl_len x 8
  unfold sB hexS strOfNums
  have hb : 0 ≤ hdg x (7 - i) ∧ hdg x (7 - i) ≤ 255 := by
    unfold hdg dg
    split <;> omega
  have hi : i < (hl x 8).length := by rw [hl_len]; exact h
  have e : (hl x 8)[i] = hdg x (7 - i) := by
    rw [List.getD_eq_getElem?_getD, List.getElem?_eq_getElem hi] at h2
    simpa using h2
  simp [List.getElem?_eq_getElem hi, e]
  omega
theorem hex_size (x : Int) : (hexS x 8).size = 8 := (strOfNums_size _).trans (hl_len x 8)
theorem hex_ok (x : Int) : unOK (hexS x 8) = true := by
  unfold unOK
  simp only [decide_eq_true_eq, hex_size]
  refine ⟨by omega, by omega, fun i hi => ?_⟩
  rw [hex_at x i hi]
  exact (dv_dg _ (by omega)).2
theorem hex_val (x : Int) (h0 : 0 ≤ x) (h1 : x ≤ 4294967295) : unV (hexS x 8) = x := by
  have key : ∀ i, i < 8 → unF (hexS x 8) i = x / 2 ^ (4 * i) % 16 := fun i hi => by
    unfold unF
    rw [hex_size, hex_at x _ (by omega), show 7 - (8 - 1 - i) = i by omega]
    unfold hdg
    rw [(dv_dg _ (by omega)).1]
    omega
  rw [unV, hex_ok, if_pos rfl, hex_size]
  simp only [tgv, key 0 (by omega), key 1 (by omega), key 2 (by omega), key 3 (by omega), key 4 (by omega), key 5 (by omega), key 6 (by omega), key 7 (by omega)]
  omega
theorem hex_okL (x : Int) : okL (hexS x 8).data.toList := by
  intro c hc
  obtain ⟨i, hi, rfl⟩ := List.getElem_of_mem hc
  have hs : (hexS x 8).data.toList.length = 8 := by rw [Array.length_toList]; exact hex_size x
  have h2 := hex_at x i (by omega)
  unfold sB at h2
  rw [Array.length_toList] at hi
  rw [Array.getElem?_eq_getElem hi] at h2
  have h3 := (dv_dg (x / 2 ^ (4 * (7 - i)) % 16).toNat (by omega)).2
  unfold hdg at h2
  rw [← h2] at h3
  simp only [isd, decide_eq_true_eq, Option.getD_some] at h3
  simp only [Array.getElem_toList, okc, Bool.or_eq_true, Bool.and_eq_true, decide_eq_true_eq]
  omega
theorem show_back (x a : Int) (h0 : 0 ≤ x) (h1 : x ≤ 4294967295) : (∀ c ∈ showP x a, okl c) ∧ saidP (showP x a) = showP x a ∧ showP x a ≠ [] ∧ wordP (showP x a) a = some x := by
  unfold showP
  split
  · rename_i hok
    have hr : rightB (decI x) = true := by
      have h := hok
      simp only [decOk, Bool.and_eq_true] at h
      simp [decI, hok, h.1]
    have hp : packV (decI x) = x := by
      have h := hok
      simp only [decOk, Bool.and_eq_true, beq_iff_eq] at h
      simp [decI, hok, h.2]
    generalize decI x = i at hr hp
    obtain ⟨s1, s2, s3, s4⟩ := sort_ok hr
    obtain ⟨xs, z, e, hy, hz, hfill⟩ := filled_back a hr
    rw [e]
    obtain ⟨b1, b2, b3, b4⟩ := line_back (nameP i) xs z s3 s2 (hy z (by simp)).2 hy
    refine ⟨b2, b1, by simp, ?_⟩
    unfold wordP
    simp only [b3, b4, if_neg s4, List.getLastD_concat]
    have hi : instrP (nameP i) z = some (baseI i) := by
      unfold instrP
      rw [hz]
      cases hn : numK i with
      | true => rw [hn] at s1; simpa using s1
      | false => rw [hn] at s1; simpa using s1
    rw [hi]
    simp only [Option.bind_some, hfill, hr, if_true, hp]
  · have hx := hex_okL x
    have hne : (hexS x 8).data.toList ≠ [] := fun e => by
      have hs : (hexS x 8).data.toList.length = 8 := by rw [Array.length_toList]; exact hex_size x
      rw [e] at hs; simp at hs
    obtain ⟨b1, b2, b3, b4⟩ := line_back wordT [] (hexS x 8).data.toList (by decide) (by intro c hc; revert hc; revert c; decide) hne (fun y hy => by simp at hy; subst hy; exact ⟨hx, hne⟩)
    rw [List.nil_append, join_one] at b1 b2 b3 b4
    refine ⟨b2, b1, by simp, ?_⟩
    unfold wordP
    simp only [b3, b4, if_true, digitsP, bs_of, hex_ok, hex_val x h0 h1]
theorem parts_lines : ∀ (l : List Int) (k : Nat), (∀ x ∈ l, 0 ≤ x ∧ x ≤ 4294967295) → ∀ ws : List Int, ws.length = k → ∀ n, goP (parts 10 (linesP l k)) n ws = .words (ws ++ l)
  | [], k, _, ws, hk, n => by
    simp [linesP, parts, goP, saidP, cutB, trimP_eq]
  | x :: r, k, h, ws, hk, n => by
    obtain ⟨b1, b2, b3, b4⟩ := show_back x (4 * k) (h x (by simp)).1 (h x (by simp)).2
    have hn : (10 : UInt8) ∉ showP x (4 * k) := fun hm => (okl_not (b1 10 hm)).2 rfl
    rw [linesP, List.append_assoc, List.singleton_append, parts_app _ hn, goP, b2, if_neg b3, hk, b4]
    simp only []
    rw [parts_lines r (k + 1) (fun y hy => h y (by simp [hy])) (ws ++ [x]) (by simp [hk]) (n + 1)]
    simp
theorem text_back (L : List Int) (hL : ∀ x ∈ L, 0 ≤ x ∧ x ≤ 4294967295) (h : textOk L = true) : parseW (textT L) = L ∧ parseN (textT L) = 0 ∧ parseE (textT L) = 0 := by
  have e : textT L = linesP L 0 := by simp [textT, h]
  have hlen : ¬ 65536 < (linesP L 0).length := by
    simp only [textOk, Bool.and_eq_true, decide_eq_true_eq] at h
    omega
  have hg := parts_lines L 0 hL [] rfl 0
  rw [e]
  simp [parseW, parseN, parseE, hlen, hg]
end Go.Proofs.YtmldlkcgaepaaaaGreatDoor
namespace Go.Proofs.YtmldlkcgaepaaaaGreatDoor
set_option linter.unusedVariables false
set_option linter.unusedSimpArgs false
open Go.ChangeShapes Go.WideShapes Go.ChangeAt Go.RowKit
attribute [local go_sem ↓] loadIn_seal storeIn_seal
attribute [local go_sem] loadIn_run storeIn_run rowAt_at rowAt_old rowAt_drew rowAt_drewN roomCpu_new roomIn_new roomAt_old roomAt_drew roomAt_drewN putCpu_new putIn_new Cp.zero_fold In.fold putRow_past rowCpu_put rowIn_put size_put putRow_drew putRow_drewN alloc_drewN setCell_drewN Cp.at16 Cp.at17 Cp.at18 Cp.at19 Cp.at20 Cp.at21 Cp.size Cp.set16 Cp.set17 Cp.set18 Cp.set19 Cp.set20 Cp.set21 In.at0 In.at1 In.at2 In.at3 In.at4 In.at5 In.at6 In.at7 In.size In.set0 In.set1 In.set2 In.set3 In.ne Cp.ne In.set4 In.set5 In.set6 In.set7

theorem pack_bd (i : In) (h : Rt i) : 0 ≤ packV i ∧ packV i ≤ 4294967295 := by
  obtain ⟨hA, hB, hC, hF⟩ := h
  have hu := bit_bd i.U
  have hv := bit_bd i.V
  unfold packV hiV
  rcases hF with ⟨hF, hN, o0, o1⟩ | ⟨hF, hC, n0, n1, o0, o1⟩ | ⟨hF, hC, hO, n0, n1⟩ | ⟨hF, hB, hO, hn⟩ <;> simp only [hF] <;> simp <;> omega
set_option maxHeartbeats 2000000 in
theorem word_bd {s : Bs} {a x : Int} (h : wordP s a = some x) : 0 ≤ x ∧ x ≤ 4294967295 := by
  unfold wordP at h
  simp only [] at h
  split at h
  · unfold digitsP at h
    split at h
    · split at h
      · rename_i hu
        injection h with h
        subst h
        have hu2 := hu
        simp only [unOK, decide_eq_true_eq] at hu2
        rename_i t _
        have hb := tgv_bd4 (unF (bs t)) (bs t).size (fun i _ => dv_bd _) (bs t).size (Nat.le_refl _)
        rw [unV, if_pos hu]
        have hp : (16 : Int) ^ (bs t).size ≤ 16 ^ 8 := by exact_mod_cast Nat.pow_le_pow_right (by omega) hu2.2.1
        omega
      · cases h
    · cases h
  · rw [Option.bind_eq_some_iff] at h
    obtain ⟨i, _, h⟩ := h
    rw [Option.bind_eq_some_iff] at h
    obtain ⟨i', _, h⟩ := h
    split at h
    · rename_i hr
      injection h with h
      subst h
      exact pack_bd i' (right_bd hr)
    · cases h
theorem go_bd : ∀ (l : List Bs) (n : Nat) (ws r : List Int), (∀ x ∈ ws, 0 ≤ x ∧ x ≤ 4294967295) → goP l n ws = .words r → ∀ x ∈ r, 0 ≤ x ∧ x ≤ 4294967295
  | [], n, ws, r, h, e => by
    simp only [goP] at e
    injection e with e
    subst e; exact h
  | l :: t, n, ws, r, h, e => by
    rw [goP] at e
    split at e
    · exact go_bd t _ ws r h e
    · split at e
      · cases e
      · rename_i x hx
        refine go_bd t _ _ r (fun y hy => ?_) e
        rcases List.mem_append.1 hy with h1 | h1
        · exact h y h1
        · simp at h1; subst h1; exact word_bd hx
theorem parse_bd (t : Bs) : ∀ x ∈ parseW t, 0 ≤ x ∧ x ≤ 4294967295 := by
  unfold parseW
  split
  · simp
  · split
    · rename_i l hl
      exact go_bd _ _ [] l (by simp) hl
    · simp
theorem parse_none (t : Bs) (h : parseE t ≠ 0) : parseW t = [] ∧ 0 ≤ parseN t := by
  unfold parseE at h
  unfold parseW parseN
  split
  · exact ⟨rfl, by omega⟩
  · rename_i hh
    rw [if_neg hh] at h
    cases hg : goP (parts 10 t) 0 [] with
    | words l => rw [hg] at h; exact absurd rfl h
    | line n => exact ⟨rfl, by simp⟩
theorem parse_zero (t : Bs) (h : parseE t = 0) : parseN t = 0 := by
  unfold parseE at h
  unfold parseN
  split
  · rfl
  · rename_i hh
    rw [if_neg hh] at h
    cases hg : goP (parts 10 t) 0 [] with
    | words l => rfl
    | line n => rw [hg] at h; cases h
theorem parse_empty : textOk (parseW []) = true := by
  have : parseW [] = [] := by simp [parseW, parts, goP, saidP, cutB, trimP_eq]
  rw [this]
  simp [textOk, linesP]
theorem words_own {w : World} {B : Nat} {v : Value} {L : List Int} (h : w.ownsRow B 28 1 v L.length (ints L)) : ∃ a c, v = .slice a L.length c ∧ WordsAt w a L := by
  rcases h.2 with ⟨rfl, h0⟩ | ⟨g, cap, cur, rfl, hb, hg, hc, _, hs, ht⟩
  · exact ⟨none, 0, by rw [h0], fun j hj => by omega⟩
  · refine ⟨_, _, rfl, fun j hj => ⟨g, 0, rfl, (Array.getElem?_eq_some_iff.1 hg).1, ?_⟩⟩
    have e : (ints L)[j]? = some (.int .u32 L[j]) := by simp [ints, hj]
    rw [← ht, Nat.mul_one, List.getElem?_take, if_pos hj] at e
    rw [Nat.zero_add]
    simp only [World.cell?, hg]
    simpa using e
theorem words_below {w w' : World} {a : Option Addr} {L : List Int} (h : WordsAt w a L) (hb : Below w.heap.size w w') : WordsAt w' a L := fun j hj => by
  obtain ⟨b, off, rfl, h1, h2⟩ := h j hj
  exact ⟨b, off, rfl, Nat.lt_of_lt_of_le h1 hb.size, (hb.cell (p := ⟨b, _, none⟩) h1).trans h2⟩
set_option maxHeartbeats 2000000 in
set_option maxRecDepth 20000 in
theorem same_any (a1 a2 : Option Addr) (c1 c2 : Nat) (L : List Int) (w : World) (h1 : WordsAt w a1 L) (h2 : WordsAt w a2 L) (hm : L.length ≤ 9223372036854775807) :
    Calls Tryz.prog 6 #[.slice a1 L.length c1, .slice a2 L.length c2] w fun e w' => e = .returned (.bool true) ∧ Below w.heap.size w w' := by
  have H1 : Hid (WordsAt w a1 L) := h1
  have H2 : Hid (WordsAt w a2 L) := h2
  clear h1 h2
  go_enter Tryz.func6, Tryz.ntmps6
  go_wp2
  go_loopw [5] (fun x wr => ∃ k : Nat, k ≤ L.length ∧ x = .int .i64 k ∧ Below w.heap.size w wr) (fun x _ => L.length - (intOf x).toNat)
  case atStart => exact ⟨0, by omega, rfl, Below.refl _ _⟩
  case round =>
    obtain ⟨k, hk, rfl, hbel⟩ := hrel
    by_cases hlt : k < L.length
    · have hd : decide ((k : Int) < L.length) = true := by simp; omega
      obtain ⟨b, off, rfl, hb1, hc⟩ := H1.out k hlt
      obtain ⟨b2, off2, rfl, hb2, hc2⟩ := H2.out k hlt
      have q1 : wr.cell? ⟨b, off + k, none⟩ = some (.int .u32 L[k]) := (hbel.cell (p := ⟨b, _, none⟩) hb1).trans hc
      have q2 : wr.cell? ⟨b2, off2 + k, none⟩ = some (.int .u32 L[k]) := (hbel.cell (p := ⟨b2, _, none⟩) hb2).trans hc2
      generalize L[k] = x at q1 q2 hc hc2
      clear hc hc2
      go_wp2
      go_quiet (fail)
      go_wp2
      go_roundw
      case rel => exact ⟨k + 1, by omega, by go_num, below_drewN hbel _⟩
      case measure => simp [intOf]; omega
    · obtain rfl : k = L.length := by omega
      have hd : decide ((L.length : Int) < L.length) = false := by simp
      go_wp2
      go_ret
      exact ⟨by simp, hbel⟩

theorem go_len : ∀ (l : List Bs) (n : Nat) (ws r : List Int), goP l n ws = .words r → r.length ≤ ws.length + l.length
  | [], n, ws, r, e => by
    simp only [goP] at e
    injection e with e
    subst e; simp
  | l :: t, n, ws, r, e => by
    rw [goP] at e
    split at e
    · have := go_len t _ ws r e; simp; omega
    · split at e
      · cases e
      · have := go_len t _ _ r e; simp at this ⊢; omega
theorem parse_len (t : Bs) : (parseW t).length ≤ 65537 := by
  unfold parseW
  split
  · simp
  · split
    · rename_i h l hl
      have h1 := go_len _ _ _ _ hl
      have h2 := parts_len 10 t
      simp at h1
      omega
    · simp
end Go.Proofs.YtmldlkcgaepaaaaGreatDoor
