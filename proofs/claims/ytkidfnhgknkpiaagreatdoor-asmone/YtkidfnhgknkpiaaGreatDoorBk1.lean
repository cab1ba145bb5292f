/-
  Layer 6, plain: digits and texts that are put together are read back. Nothing of the program's run is in this text.
-/
import Derived.Test.YtkidfnhgknkpiaaGreatDoorPp
namespace Go.Proofs.YtkidfnhgknkpiaaGreatDoor
set_option linter.unusedVariables false
set_option linter.unusedSimpArgs false

theorem dec_small {u : Nat} (h : u < 10) : Lib.decDigits u = [UInt8.ofNat (48 + u)] := by rw [Lib.decDigits, dif_pos h]
theorem dec_big {u : Nat} (h : ¬ u < 10) : Lib.decDigits u = Lib.decDigits (u / 10) ++ [UInt8.ofNat (48 + u % 10)] := by rw [Lib.decDigits, dif_neg h]
theorem dig_nat {d : Nat} (h : d < 10) : (UInt8.ofNat (48 + d)).toNat = 48 + d := by simp; omega
theorem dec_all : ∀ (n u : Nat), u ≤ n → ∀ c ∈ Lib.decDigits u, 48 ≤ c.toNat ∧ c.toNat ≤ 57
  | n, u, hn, c, hc => by
    by_cases h : u < 10
    · rw [dec_small h] at hc
      simp only [List.mem_singleton] at hc
      rw [hc, dig_nat h]; omega
    · rw [dec_big h] at hc
      rcases List.mem_append.1 hc with h1 | h1
      · match n with
        | 0 => omega
        | n + 1 => exact dec_all n (u / 10) (by omega) c h1
      · simp only [List.mem_singleton] at h1
        rw [h1, dig_nat (by omega)]; omega
theorem dec_ne (u : Nat) : Lib.decDigits u ≠ [] := by
  by_cases h : u < 10
  · rw [dec_small h]; simp
  · rw [dec_big h]; simp
theorem uintM_dec (M : Nat) (hM : M ≤ 18446744073709551615) : ∀ (n u : Nat) (r : Bs), u ≤ n → u ≤ M → Lib.parseUintM M 0 (Lib.decDigits u ++ r) = Lib.parseUintM M u r
  | n, u, r, hn, hu => by
    by_cases h : u < 10
    · rw [dec_small h, List.singleton_append, Lib.parseUintM, dig_nat h, if_pos (by omega), if_neg (by omega), if_neg (by omega)]
      congr 1; omega
    · rw [dec_big h, List.append_assoc]
      match n with
      | 0 => omega
      | n + 1 =>
        rw [uintM_dec M hM n (u / 10) _ (by omega) (by omega), List.singleton_append, Lib.parseUintM, dig_nat (by omega), if_pos (by omega), if_neg (by omega), if_neg (by omega)]
        congr 1; omega
theorem uint10_dec : ∀ (n u : Nat) (r : Bs), u ≤ n → u ≤ 18446744073709551615 → Lib.parseUint10 0 (Lib.decDigits u ++ r) = Lib.parseUint10 u r
  | n, u, r, hn, hu => by
    by_cases h : u < 10
    · rw [dec_small h, List.singleton_append, Lib.parseUint10, dig_nat h, if_pos (by omega), if_neg (by omega), if_neg (by omega)]
      congr 1; omega
    · rw [dec_big h, List.append_assoc]
      match n with
      | 0 => omega
      | n + 1 =>
        rw [uint10_dec n (u / 10) _ (by omega) (by omega), List.singleton_append, Lib.parseUint10, dig_nat (by omega), if_pos (by omega), if_neg (by omega), if_neg (by omega)]
        congr 1; omega
theorem uint32_dec (u : Nat) (h : u ≤ 4294967295) : Lib.parseUintB 32 (Lib.decDigits u) = .ok u := by
  have := uintM_dec 4294967295 (by omega) u u [] (Nat.le_refl _) h
  rw [List.append_nil] at this
  rw [Lib.parseUintB, if_neg (dec_ne u)]
  exact this
theorem mag_dec (u : Nat) (h : u ≤ 18446744073709551615) : Lib.parseMag (Lib.decDigits u) = .ok u := by
  have := uint10_dec u u [] (Nat.le_refl _) h
  rw [List.append_nil] at this
  rw [Lib.parseMag, if_neg (dec_ne u)]
  exact this
theorem atoi_itoa (n : Int) (h0 : -9223372036854775808 ≤ n) (h1 : n ≤ 9223372036854775807) : Lib.atoiAll (Lib.itoa n) = .ok n := by
  unfold Lib.itoa
  by_cases hn : n < 0
  · rw [if_pos hn, Lib.atoiAll]
    have e : (45 : UInt8).toNat = 45 := rfl
    simp only [e, or_true, if_true, mag_dec n.natAbs (by omega)]
    rw [if_neg (by simp), if_neg (by omega)]
    congr 1; omega
  · rw [if_neg hn]
    cases hd : Lib.decDigits n.toNat with
    | nil => exact absurd hd (dec_ne _)
    | cons c r =>
      have hc := dec_all n.toNat n.toNat (Nat.le_refl _) c (by rw [hd]; simp)
      have hm := mag_dec n.toNat (by omega)
      rw [hd] at hm
      rw [Lib.atoiAll]
      have e1 : ¬ (c.toNat = 43 ∨ c.toNat = 45) := by omega
      simp only [e1, if_false, hm]
      rw [if_neg (by omega), if_neg (by omega), if_neg (by omega)]
      congr 1; omega
theorem num_back (n : Int) (h0 : -9223372036854775808 ≤ n) (h1 : n ≤ 9223372036854775807) : numOf (Lib.itoa n) = some n := by
  rw [numOf, atoi_itoa n h0 h1]; simp

/-- A sign of names and operands. -/
def okc (c : UInt8) : Bool := (decide (48 ≤ c.toNat) && decide (c.toNat ≤ 57)) || (decide (65 ≤ c.toNat) && decide (c.toNat ≤ 90)) || decide (c.toNat = 45)
theorem okc_not {c : UInt8} (h : okc c = true) : c ≠ 32 ∧ c ≠ 9 ∧ c ≠ 13 ∧ c ≠ 59 ∧ c ≠ 44 ∧ c ≠ 10 := by
  refine ⟨?_, ?_, ?_, ?_, ?_, ?_⟩ <;> (intro e; subst e; revert h; decide)
theorem okc_blk {c : UInt8} (h : okc c = true) : blk c = false := by
  obtain ⟨h1, h2, h3, _⟩ := okc_not h
  simp [blk, h1, h2, h3]
def okL (l : Bs) : Prop := ∀ c ∈ l, okc c = true
theorem okL_app {a b : Bs} (h : okL a) (g : okL b) : okL (a ++ b) := fun c hc => (List.mem_append.1 hc).elim (h c) (g c)
theorem itoa_ok (n : Int) : okL (Lib.itoa n) := by
  intro c hc
  unfold Lib.itoa at hc
  have key : ∀ u, c ∈ Lib.decDigits u → okc c = true := fun u hu => by
    have := dec_all u u (Nat.le_refl _) c hu
    simp [okc, this]
  split at hc
  · rcases List.mem_cons.1 hc with rfl | h
    · decide
    · exact key _ h
  · exact key _ hc
theorem itoa_ne (n : Int) : Lib.itoa n ≠ [] := by
  unfold Lib.itoa
  split
  · simp
  · exact dec_ne _
theorem drop_none {p : UInt8 → Bool} : ∀ {l : Bs}, (∀ x, l.head? = some x → p x = false) → l.dropWhile p = l
  | [], _ => rfl
  | x :: r, h => by rw [List.dropWhile_cons, h x rfl]; simp
theorem trim_mid {a z : Bs} (m : Bs) (ha : a ≠ []) (hz : z ≠ []) (oa : okL a) (oz : okL z) : trimP (a ++ m ++ z) = a ++ m ++ z := by
  rw [trimP_eq]
  have h1 : (a ++ m ++ z).reverse.dropWhile blk = (a ++ m ++ z).reverse := drop_none (fun x hx => by
    rw [List.reverse_append] at hx
    cases hr : z.reverse with
    | nil => exact absurd (by simpa using hr) hz
    | cons y r =>
      rw [hr] at hx
      simp at hx
      subst hx
      exact okc_blk (oz y (by rw [← List.mem_reverse, hr]; simp)))
  rw [h1, List.reverse_reverse]
  refine drop_none (fun x hx => ?_)
  cases a with
  | nil => exact absurd rfl ha
  | cons y r =>
    simp at hx
    subst hx
    exact okc_blk (oa y (by simp))
theorem trim_ok {l : Bs} (h : okL l) : trimP l = l := by
  rw [trimP_eq]
  have h1 : l.reverse.dropWhile blk = l.reverse := drop_none (fun x hx => okc_blk (h x (List.mem_reverse.1 (List.mem_of_mem_head? hx))))
  rw [h1, List.reverse_reverse]
  exact drop_none (fun x hx => okc_blk (h x (List.mem_of_mem_head? hx)))
theorem trim_sp {l : Bs} (h : okL l) (hn : l ≠ []) : trimP (32 :: l) = l := by
  rw [trimP_eq, List.reverse_cons]
  have h1 : (l.reverse ++ [32]).dropWhile blk = l.reverse ++ [32] := drop_none (fun x hx => by
    cases hr : l.reverse with
    | nil => exact absurd (by simpa using hr) hn
    | cons y r =>
      rw [hr] at hx
      simp at hx
      subst hx
      exact okc_blk (h y (by rw [← List.mem_reverse, hr]; simp)))
  rw [h1, List.reverse_append, List.reverse_reverse, List.reverse_singleton, List.singleton_append, List.dropWhile_cons, if_pos (by decide)]
  exact drop_none (fun x hx => okc_blk (h x (List.mem_of_mem_head? hx)))
theorem join_cons2 (x y : Bs) (r : List Bs) (sep : Bs) : Lib.join (x :: y :: r) sep = x ++ (sep ++ Lib.join (y :: r) sep) := by simp [Lib.join, List.intercalate]
theorem join_one (x : Bs) (sep : Bs) : Lib.join [x] sep = x := by simp [Lib.join]
theorem no44 {l : Bs} (h : okL l) : (44 : UInt8) ∉ l := fun hm => (okc_not (h 44 hm)).2.2.2.2.1 rfl
theorem parts_join : ∀ (xs : List Bs) (x p : Bs), (44 : UInt8) ∉ p → okL x → (∀ y ∈ xs, okL y) → parts 44 (p ++ Lib.join (x :: xs) [44, 32]) = (p ++ x) :: xs.map (32 :: ·)
  | [], x, p, hp, hx, _ => by
    rw [join_one, parts_free (by simp [hp, no44 hx])]; rfl
  | y :: r, x, p, hp, hx, h => by
    rw [join_cons2, show p ++ (x ++ ([44, 32] ++ Lib.join (y :: r) [44, 32])) = (p ++ x) ++ 44 :: ([32] ++ Lib.join (y :: r) [44, 32]) by simp]
    rw [parts_app _ (by simp [hp, no44 hx]), parts_join r y [32] (by decide) (h y (by simp)) (fun z hz => h z (by simp [hz]))]
    rfl
theorem ops_back (x : Bs) (xs : List Bs) (hx : okL x) (h : ∀ y ∈ xs, okL y ∧ y ≠ []) : operandsP (Lib.join (x :: xs) [44, 32]) = x :: xs := by
  have := parts_join xs x [] (by simp) hx (fun y hy => (h y hy).1)
  rw [List.nil_append, List.nil_append] at this
  rw [operandsP, this, List.map_cons, trim_ok hx, List.map_map]
  congr 1
  have : ∀ l : List Bs, (∀ y ∈ l, okL y ∧ y ≠ []) → l.map (trimP ∘ fun y => 32 :: y) = l := by
    intro l hl
    induction l with
    | nil => rfl
    | cons y r ih =>
      rw [List.map_cons, ih (fun z hz => hl z (by simp [hz]))]
      simp only [Function.comp]
      rw [trim_sp (hl y (by simp)).1 (hl y (by simp)).2]
  exact this xs h
theorem join_last (z : Bs) : ∀ (xs : List Bs), ∃ m, Lib.join (xs ++ [z]) [44, 32] = m ++ z
  | [] => ⟨[], by simp [Lib.join]⟩
  | x :: r => by
    obtain ⟨m, hm⟩ := join_last z r
    cases r with
    | nil => exact ⟨x ++ [44, 32], by simp [Lib.join, List.intercalate]⟩
    | cons y t =>
      refine ⟨x ++ ([44, 32] ++ m), ?_⟩
      rw [List.cons_append, List.cons_append, join_cons2, ← List.cons_append, hm]; simp
theorem cut_at {p : UInt8 → Bool} {a : Bs} {c : UInt8} {r : Bs} (ha : ∀ x ∈ a, p x = false) (hc : p c = true) : cutB p (a ++ c :: r) = a ∧ cutR p (a ++ c :: r) = r := by
  induction a with
  | nil => simp [cutB, cutR, hc]
  | cons x a ih =>
    have hx := ha x (by simp)
    have := ih (fun y hy => ha y (by simp [hy]))
    rw [List.cons_append, cutB_cons, cutR_cons, hx]
    simp [this]
theorem cut_none {p : UInt8 → Bool} {l : Bs} (h : ∀ x ∈ l, p x = false) : cutB p l = l := by
  induction l with
  | nil => rfl
  | cons x r ih => rw [cutB_cons, h x (by simp), ih (fun y hy => h y (by simp [hy]))]; simp
/-- What stands in a line: signs, blanks and commas. -/
def okl (c : UInt8) : Prop := okc c = true ∨ c = 32 ∨ c = 44
theorem okl_not {c : UInt8} (h : okl c) : c ≠ 59 ∧ c ≠ 10 := by
  rcases h with h | rfl | rfl
  · exact ⟨(okc_not h).2.2.2.1, (okc_not h).2.2.2.2.2⟩
  · decide
  · decide
theorem join_okl : ∀ (xs : List Bs), (∀ y ∈ xs, okL y) → ∀ c ∈ Lib.join xs [44, 32], okl c
  | [], _, c, hc => by simp [Lib.join] at hc
  | [x], h, c, hc => by rw [join_one] at hc; exact .inl (h x (by simp) c hc)
  | x :: y :: r, h, c, hc => by
    rw [join_cons2] at hc
    rcases List.mem_append.1 hc with h1 | h1
    · exact .inl (h x (by simp) c h1)
    · rcases List.mem_append.1 h1 with h2 | h2
      · simp at h2
        rcases h2 with rfl | rfl
        · exact .inr (.inr rfl)
        · exact .inr (.inl rfl)
      · exact join_okl (y :: r) (fun z hz => h z (by simp only [List.mem_cons] at hz ⊢; exact .inr hz)) c h2
/-- A line of a name and operands is read as such. -/
theorem line_back (name : Bs) (xs : List Bs) (z : Bs) (hn : name ≠ []) (on : okL name) (hz : z ≠ []) (h : ∀ y ∈ xs ++ [z], okL y ∧ y ≠ []) :
    saidP (name ++ [32] ++ Lib.join (xs ++ [z]) [44, 32]) = name ++ [32] ++ Lib.join (xs ++ [z]) [44, 32] ∧ (∀ c ∈ name ++ [32] ++ Lib.join (xs ++ [z]) [44, 32], okl c) ∧
    cutB blanks.contains (name ++ [32] ++ Lib.join (xs ++ [z]) [44, 32]) = name ∧ operandsP (cutR blanks.contains (name ++ [32] ++ Lib.join (xs ++ [z]) [44, 32])) = xs ++ [z] := by
  have ho : ∀ c ∈ name ++ [32] ++ Lib.join (xs ++ [z]) [44, 32], okl c := fun c hc => by
    rcases List.mem_append.1 hc with h1 | h1
    · rcases List.mem_append.1 h1 with h2 | h2
      · exact .inl (on c h2)
      · simp at h2; exact .inr (.inl h2)
    · exact join_okl _ (fun y hy => (h y hy).1) c h1
  have hcut : cutB [59].contains (name ++ [32] ++ Lib.join (xs ++ [z]) [44, 32]) = name ++ [32] ++ Lib.join (xs ++ [z]) [44, 32] := cut_none (fun c hc => by
    have := (okl_not (ho c hc)).1
    simp [this])
  obtain ⟨m, hm⟩ := join_last z xs
  have hoz := (h z (by simp)).1
  have hb : ∀ c ∈ name, blanks.contains c = false := fun c hc => by rw [blk_contains]; exact okc_blk (on c hc)
  have hca := cut_at (p := blanks.contains) (a := name) (c := 32) (r := Lib.join (xs ++ [z]) [44, 32]) hb (by decide)
  have e : name ++ [32] ++ Lib.join (xs ++ [z]) [44, 32] = name ++ 32 :: Lib.join (xs ++ [z]) [44, 32] := by simp
  refine ⟨?_, ho, ?_, ?_⟩
  · rw [saidP, hcut, hm, show name ++ [32] ++ (m ++ z) = name ++ ([32] ++ m) ++ z by simp]
    exact trim_mid _ hn hz on hoz
  · rw [e]; exact hca.1
  · rw [e, hca.2]
    cases hx : xs ++ [z] with
    | nil => simp at hx
    | cons y r =>
      rw [hx] at h
      exact ops_back y r (h y (by simp)).1 (fun t ht => h t (by simp [ht]))
end Go.Proofs.YtkidfnhgknkpiaaGreatDoor
