/-
  Layer 6, plain: the document's numbers, registers and conditions are the program's. Nothing of the program's run is in this text.
  Layer 6, plain: the document's operands are the program's. Nothing of the program's run is in this text.
  Layer 6, plain: the target of a branch, as the document reads it, is the program's. Nothing of the program's run is in this text.
  Layer 6, plain: which line the program reads as which word: just the line that the word is written as, but for blanks. Nothing of the program's run is in this text.
  Layer 6, plain: the document's forms: what a right instruction is written as is read as it. Nothing of the program's run is in this text.
  Layer 6, plain: the document's word is the program's. Nothing of the program's run is in this text.
-/
import Derived.Test.YtmldlkcgaepaaaaGreatDoorMD3
import Derived.Test.YtmldlkcgaepaaaaGreatDoorMD4
namespace Go.Proofs.YtmldlkcgaepaaaaGreatDoor
set_option linter.unusedVariables false
set_option linter.unusedSimpArgs false

theorem dS {u : Nat} (h : u < 10) : Lib.decDigits u = [UInt8.ofNat (48 + u)] := by rw [Lib.decDigits, dif_pos h]
theorem dB {u : Nat} (h : ¬ u < 10) : Lib.decDigits u = Lib.decDigits (u / 10) ++ [UInt8.ofNat (48 + u % 10)] := by rw [Lib.decDigits, dif_neg h]
theorem dg_bd {c : UInt8} (h : isDg c = true) : 48 ≤ c.toNat ∧ c.toNat ≤ 57 := by simpa [isDg] using h
theorem dg_back {c : UInt8} (h : isDg c = true) : UInt8.ofNat (48 + (c.toNat - 48)) = c := by
  have := dg_bd h
  apply UInt8.toNat_inj.1
  rw [dig_nat (by omega)]
  omega
theorem valD_ge : ∀ (a : Bs) (n : Nat), n ≤ valD a n
  | [], n => Nat.le_refl _
  | c :: a, n => by have := valD_ge a (10 * n + (c.toNat - 48)); rw [valD]; omega
theorem valD_pos {c : UInt8} {a : Bs} (h : isDg c = true) (h48 : c ≠ 48) : 1 ≤ valD (c :: a) 0 := by
  have hb := dg_bd h
  have : c.toNat ≠ 48 := fun e => h48 (UInt8.toNat_inj.1 (by rw [e]; rfl))
  have := valD_ge a (10 * 0 + (c.toNat - 48))
  rw [valD]; omega
/-- Digits without a nought ahead are what their number is written as. -/
theorem dec_val : ∀ (m : Nat) (b : Bs), b.length ≤ m → b ≠ [] → (∀ d ∈ b, isDg d = true) → (b.head? ≠ some 48 ∨ b.length = 1) → Lib.decDigits (valD b 0) = b
  | 0, b, hm, hn, _, _ => absurd (List.eq_nil_of_length_eq_zero (by omega)) hn
  | m + 1, b, hm, hn, hd, hh => by
    obtain ⟨u, d, rfl⟩ : ∃ u d, b = u ++ [d] := ⟨b.dropLast, b.getLast hn, (List.dropLast_concat_getLast hn).symm⟩
    have hdd := hd d (by simp)
    have hb := dg_bd hdd
    cases u with
    | nil =>
      rw [List.nil_append, valD, valD, dS (by omega)]
      rw [show 48 + (10 * 0 + (d.toNat - 48)) = 48 + (d.toNat - 48) by omega, dg_back hdd]
    | cons c a =>
      have hc48 : c ≠ 48 := by
        rcases hh with h | h
        · intro e; exact h (by rw [e]; rfl)
        · simp at h
      have hu := dec_val m (c :: a) (by simp at hm ⊢; omega) (by simp) (fun x hx => hd x (by simp only [List.mem_append]; exact .inl hx)) (.inl (by simpa using hc48))
      have hp := valD_pos (a := a) (hd c (by simp)) hc48
      rw [valD_app]
      generalize valD (c :: a) 0 = v at hu hp
      rw [valD, valD, dB (by omega), show (10 * v + (d.toNat - 48)) / 10 = v by omega, show (10 * v + (d.toNat - 48)) % 10 = d.toNat - 48 by omega, hu, dg_back hdd]
theorem val_dec : ∀ (m u : Nat), u ≤ m → valD (Lib.decDigits u) 0 = u
  | m, u, hm => by
    by_cases h : u < 10
    · rw [dS h, valD, valD, dig_nat h]; omega
    · rw [dB h, valD_app]
      match m with
      | 0 => omega
      | m + 1 =>
        rw [val_dec m (u / 10) (by omega), valD, valD, dig_nat (by omega)]
        omega
theorem dec_isDg (u : Nat) : (Lib.decDigits u).all isDg = true := List.all_eq_true.2 (fun c hc => by
  have := dec_all u u (Nat.le_refl _) c hc
  simp [isDg, this])
theorem dec_head : ∀ (m u : Nat), u ≤ m → 0 < u → (Lib.decDigits u).head? ≠ some 48
  | m, u, hm, h0 => by
    by_cases h : u < 10
    · rw [dS h]
      intro e
      simp only [List.head?_cons, Option.some.injEq] at e
      have := congrArg UInt8.toNat e
      rw [dig_nat h] at this
      have h48 : (48 : UInt8).toNat = 48 := rfl
      omega
    · rw [dB h]
      match m with
      | 0 => omega
      | m + 1 =>
        have ih := dec_head m (u / 10) (by omega) (by omega)
        cases hq : Lib.decDigits (u / 10) with
        | nil => exact absurd hq (dec_ne _)
        | cons x y => rw [hq] at ih; simpa using ih
theorem dec_len : ∀ (k u : Nat), u < 10 ^ (k + 1) → (Lib.decDigits u).length ≤ k + 1
  | 0, u, h => by rw [dS (by simpa using h)]; simp
  | k + 1, u, h => by
    by_cases h10 : u < 10
    · rw [dS h10]; simp
    · rw [dB h10, List.length_append]
      have := dec_len k (u / 10) (by rw [Nat.pow_succ] at h; omega)
      simp; omega
theorem okB_dec (u : Nat) (h : u < 10000000000) : okB false (Lib.decDigits u) = true ∧ (0 < u → okB true (Lib.decDigits u) = true) := by
  have hl := dec_len 9 u (by simpa using h)
  have hp : 0 < (Lib.decDigits u).length := List.length_pos_iff.2 (dec_ne u)
  constructor
  · by_cases h0 : 0 < u
    · have := dec_head u u (Nat.le_refl _) h0
      simp [okB, hp, hl, this]
    · obtain rfl : u = 0 := by omega
      rw [dS (by omega)]; decide
  · intro h0
    have := dec_head u u (Nat.le_refl _) h0
    simp [okB, hp, hl, this]
/-- The document's number of what the program writes. -/
theorem numD_itoa (v : Int) (h0 : -10000000000 < v) (h1 : v < 10000000000) : numD (Lib.itoa v) = some v := by
  unfold Lib.itoa
  by_cases hn : v < 0
  · rw [if_pos hn]
    have ho := (okB_dec v.natAbs (by omega)).2 (by omega)
    simp only [numD, List.head?_cons, if_true, List.tail_cons, ho, dec_isDg, Bool.and_self]
    rw [val_dec _ _ (Nat.le_refl _)]
    congr 1; omega
  · rw [if_neg hn]
    have ho := (okB_dec v.toNat (by omega)).1
    have hh : (Lib.decDigits v.toNat).head? ≠ some 45 := fun e => by
      have := dec_all _ _ (Nat.le_refl _) _ (List.mem_of_mem_head? e)
      revert this; decide
    simp only [numD, hh, if_false, ho, dec_isDg, Bool.and_self, if_true]
    rw [val_dec _ _ (Nat.le_refl _)]
    congr 1; omega
/-- What the document takes for a number is written so. -/
theorem numD_some {l : Bs} {v : Int} (h : numD l = some v) : l = Lib.itoa v ∧ -10000000000 < v ∧ v < 10000000000 := by
  unfold numD at h
  split at h
  · rename_i hh
    obtain ⟨b, rfl⟩ : ∃ b, l = 45 :: b := by
      cases l with
      | nil => cases hh
      | cons x y => simp at hh; subst hh; exact ⟨y, rfl⟩
    split at h
    · rename_i ho
      injection h with h
      simp only [List.tail_cons, Bool.and_eq_true] at ho h
      obtain ⟨ho, ha⟩ := ho
      simp only [okB, Bool.and_eq_true, decide_eq_true_eq, Bool.or_true, Bool.and_true, Bool.not_eq_true', beq_eq_false_iff_ne] at ho
      have hall := List.all_eq_true.1 ha
      have hne : b ≠ [] := fun e => by rw [e] at ho; simp at ho
      have hdv := dec_val b.length b (Nat.le_refl _) hne hall (.inl ho.2)
      have hvb := valD_bd b 0 0 hall (by omega)
      have hpb := pow10_le b.length ho.1.2
      rw [Nat.zero_add] at hvb
      have hpos : 1 ≤ valD b 0 := by
        cases b with
        | nil => exact absurd rfl hne
        | cons c a => exact valD_pos (hall c (by simp)) (fun e => ho.2 (by rw [e]; rfl))
      refine ⟨?_, by omega, by omega⟩
      unfold Lib.itoa
      rw [if_pos (by omega), show v.natAbs = valD b 0 by omega, hdv]
    · cases h
  · split at h
    · rename_i ho
      injection h with h
      simp only [Bool.and_eq_true] at ho
      obtain ⟨ho, ha⟩ := ho
      simp only [okB, Bool.and_eq_true, decide_eq_true_eq, Bool.or_false] at ho
      have hall := List.all_eq_true.1 ha
      have hne : l ≠ [] := fun e => by rw [e] at ho; simp at ho
      have hh : l.head? ≠ some 48 ∨ l.length = 1 := by
        by_cases e : l.head? = some 48
        · right
          have h9 := ho.2
          rw [e] at h9
          simp at h9
          omega
        · exact .inl e
      have hdv := dec_val l.length l (Nat.le_refl _) hne hall hh
      have hvb := valD_bd l 0 0 hall (by omega)
      have hpb := pow10_le l.length ho.1.2
      rw [Nat.zero_add] at hvb
      refine ⟨?_, by omega, by omega⟩
      unfold Lib.itoa
      rw [if_neg (by omega), show v.toNat = valD l 0 by omega, hdv]
    · cases h
theorem numOf_eq {l : Bs} {v : Int} (h : numOf l = some v) : l = Lib.itoa v := by
  unfold numOf at h
  split at h
  · split at h
    · rename_i e; injection h with h; rw [← h]; exact e.symm
    · cases h
  · cases h
/-- The document's number is the program's, where it is of at most ten digits. -/
theorem num_same (l : Bs) : (∀ v, numD l = some v → numOf l = some v) ∧ (∀ v, numOf l = some v → -10000000000 < v → v < 10000000000 → numD l = some v) := by
  refine ⟨fun v h => ?_, fun v h h0 h1 => ?_⟩
  · obtain ⟨rfl, h0, h1⟩ := numD_some h
    exact num_back v (by omega) (by omega)
  · rw [numOf_eq h]; exact numD_itoa v h0 h1
theorem look_reg : ∀ (k : Nat) (s : Bs) (v : Int), look (regL k) s = some v → ∃ n, n < k ∧ v = (n : Int) ∧ s = regP (n : Int)
  | 0, s, v, h => by simp [regL, look] at h
  | k + 1, s, v, h => by
    rw [regL, look_cons] at h
    split at h
    · rename_i e
      injection h with h
      exact ⟨k, by omega, h.symm, e.symm⟩
    · obtain ⟨n, h1, h2, h3⟩ := look_reg k s v h
      exact ⟨n, by omega, h2, h3⟩
/-- The document's registers are the program's. -/
theorem reg_same (s : Bs) : rgD s = regOf s := by
  apply Option.ext
  intro v
  constructor
  · intro h
    unfold rgD at h
    split at h
    · rename_i r
      split at h
      · split at h
        · rename_i u hu
          split at h
          · rename_i hv
            injection h with h
            subst h
            obtain ⟨rfl, _, _⟩ := numD_some hu
            exact reg_back u hv.1 (by omega)
          · cases h
        · cases h
      · cases h
    · cases h
  · intro h
    obtain ⟨n, hn, rfl, rfl⟩ := look_reg 16 s v h
    have h1 := numD_itoa (n : Int) (by omega) (by omega)
    have hp : 0 < (Lib.itoa (n : Int)).length := List.length_pos_iff.2 (itoa_ne _)
    show rgD (82 :: Lib.itoa (n : Int)) = some (n : Int)
    simp only [rgD, if_pos hp, h1]
    rw [if_pos (by omega)]
theorem look_cond : ∀ (k : Nat) (s : Bs), (∀ v, look (condL k) s = some v → ∃ n, n < k ∧ v = (n : Int) ∧ s = condName (n : Int)) ∧ (look (condL k) s = none → ∀ n : Nat, n < k → condName (n : Int) ≠ s)
  | 0, s => ⟨fun v h => by simp [condL, look] at h, fun _ n hn => by omega⟩
  | k + 1, s => by
    obtain ⟨i1, i2⟩ := look_cond k s
    rw [condL, look_cons]
    by_cases e : condName (k : Int) = s
    · rw [if_pos e]
      exact ⟨fun v h => by injection h with h; exact ⟨k, by omega, h.symm, e.symm⟩, fun h => by cases h⟩
    · rw [if_neg e]
      refine ⟨fun v h => ?_, fun h n hn => ?_⟩
      · obtain ⟨n, h1, h2, h3⟩ := i1 v h
        exact ⟨n, by omega, h2, h3⟩
      · by_cases hk : n = k
        · rw [hk]; exact e
        · exact i2 h n (by omega)
theorem cfind_spec (s : Bs) : ∀ (f k : Nat), (cfind s f k = -1 ∧ ∀ j : Nat, k ≤ j → j < k + f → condName (j : Int) ≠ s) ∨ (∃ j : Nat, k ≤ j ∧ j < k + f ∧ condName (j : Int) = s ∧ cfind s f k = (j : Int))
  | 0, k => .inl ⟨rfl, fun j h1 h2 => by omega⟩
  | f + 1, k => by
    rw [cfind]
    by_cases e : condName (k : Int) = s
    · rw [if_pos e]; exact .inr ⟨k, by omega, by omega, e, rfl⟩
    · rw [if_neg e]
      rcases cfind_spec s f (k + 1) with ⟨h1, h2⟩ | ⟨j, h1, h2, h3, h4⟩
      · refine .inl ⟨h1, fun j g1 g2 => ?_⟩
        by_cases hk : j = k
        · rw [hk]; exact e
        · exact h2 j (by omega) (by omega)
      · exact .inr ⟨j, by omega, by omega, h3, h4⟩
/-- The document's conditions are the program's. -/
theorem cond_same (s : Bs) : (∀ v, condOf s = some v → cfind s 16 0 = v) ∧ (condOf s = none → cfind s 16 0 = -1) := by
  obtain ⟨l1, l2⟩ := look_cond 16 s
  rcases cfind_spec s 16 0 with ⟨h1, h2⟩ | ⟨j, _, h2, h3, h4⟩
  · refine ⟨fun v h => ?_, fun _ => h1⟩
    obtain ⟨n, hn, rfl, e⟩ := l1 v h
    exact absurd e.symm (h2 n (by omega) (by omega))
  · have hb := cond_back (j : Int) (by omega) (by omega)
    rw [h3] at hb
    refine ⟨fun v h => ?_, fun h => ?_⟩
    · rw [hb] at h; injection h with h; rw [h4, h]
    · rw [hb] at h; cases h
end Go.Proofs.YtmldlkcgaepaaaaGreatDoor

namespace Go.Proofs.YtmldlkcgaepaaaaGreatDoor
set_option linter.unusedVariables false
set_option linter.unusedSimpArgs false

theorem lead_trim (b : UInt8) (x : Bs) (hb : blk b = true) : trimP (b :: x) = trimP x := by
  rw [trimP_eq, trimP_eq, List.reverse_cons]
  by_cases h : x.reverse.dropWhile blk = []
  · have h2 : (x.reverse ++ [b]).dropWhile blk = [] := by
      rw [List.dropWhile_append]
      simp [h, hb]
    rw [h2, h]
  · have h2 : (x.reverse ++ [b]).dropWhile blk = x.reverse.dropWhile blk ++ [b] := by
      rw [List.dropWhile_append]
      simp [h]
    rw [h2, List.reverse_append, List.reverse_singleton, List.singleton_append, List.dropWhile_cons, if_pos hb]
theorem trail_trim (b : UInt8) (x : Bs) (hb : blk b = true) : trimP (x ++ [b]) = trimP x := by
  rw [trimP_eq, trimP_eq, List.reverse_append, List.reverse_singleton, List.singleton_append, List.dropWhile_cons, if_pos hb]
def addL (b : UInt8) : List Bs → List Bs
  | [] => []
  | [h] => [h ++ [b]]
  | h :: g :: t => h :: addL b (g :: t)
theorem addL_cons (b : UInt8) (h : Bs) (t : List Bs) : addL b (h :: t) = if t = [] then [h ++ [b]] else h :: addL b t := by
  cases t with
  | nil => rfl
  | cons g t => simp [addL]
theorem parts_snoc {b : UInt8} (hb : b ≠ 44) : ∀ y : Bs, parts 44 (y ++ [b]) = addL b (parts 44 y)
  | [] => by simp [parts, addL, hb]
  | c :: y => by
    have ih := parts_snoc hb y
    rw [List.cons_append, parts, parts, ih]
    have hne := parts_ne 44 y
    by_cases hc : c = 44
    · rw [if_pos hc, if_pos hc, addL_cons, if_neg hne]
    · rw [if_neg hc, if_neg hc]
      cases hP : parts 44 y with
      | nil => exact absurd hP hne
      | cons h t =>
        rw [addL_cons, addL_cons]
        cases t with
        | nil => simp
        | cons g t => simp
theorem map_addL {b : UInt8} (hb : blk b = true) : ∀ l : List Bs, (addL b l).map trimP = l.map trimP
  | [] => rfl
  | [h] => by simp [addL, trail_trim b h hb]
  | h :: g :: t => by
    have := map_addL hb (g :: t)
    rw [addL, List.map_cons, List.map_cons, this]
theorem blk_not44 {b : UInt8} (h : blk b = true) : b ≠ 44 := fun e => by rw [e] at h; revert h; decide
theorem parts_lead {b : UInt8} (hb : blk b = true) (y : Bs) : (parts 44 (b :: y)).map trimP = (parts 44 y).map trimP := by
  rw [parts, if_neg (blk_not44 hb)]
  conv => rhs; rw [parts_cons 44 y]
  rw [List.map_cons, List.map_cons, lead_trim b _ hb]
theorem parts_trim : ∀ (m : Nat) (x : Bs), x.length ≤ m → (parts 44 (trimP x)).map trimP = (parts 44 x).map trimP
  | 0, x, h => by
    obtain rfl : x = [] := List.eq_nil_of_length_eq_zero (by omega)
    rfl
  | m + 1, x, h => by
    cases x with
    | nil => rfl
    | cons b y =>
      cases hb : blk b with
      | true => rw [lead_trim b y hb, parts_lead hb, parts_trim m y (by simp at h; omega)]
      | false =>
        have hn : b :: y ≠ [] := by simp
        obtain ⟨u, d, e⟩ : ∃ u d, b :: y = u ++ [d] := ⟨(b :: y).dropLast, (b :: y).getLast hn, (List.dropLast_concat_getLast hn).symm⟩
        cases hd : blk d with
        | true =>
          have hu : u.length ≤ m := by
            have := congrArg List.length e
            simp at this h
            omega
          rw [e, trail_trim d u hd, parts_snoc (blk_not44 hd), map_addL hd, parts_trim m u hu]
        | false =>
          have ht : trimP (b :: y) = b :: y := by
            rw [trimP_eq]
            have h1 : (b :: y).reverse.dropWhile blk = (b :: y).reverse := by
              rw [e, List.reverse_append, List.reverse_singleton, List.singleton_append, List.dropWhile_cons, hd]; simp
            rw [h1, List.reverse_reverse, List.dropWhile_cons, hb]; simp
          rw [ht]
theorem drop_name : ∀ s : Bs, s.drop (nameD s).length = s.dropWhile fun c => !blk c
  | [] => rfl
  | c :: t => by
    have := drop_name t
    unfold nameD at this ⊢
    rw [List.takeWhile_cons, List.dropWhile_cons]
    cases hb : blk c with
    | true => simp
    | false => simpa using this
theorem name_same (s : Bs) : cutB blanks.contains s = nameD s := by
  unfold cutB nameD
  congr 1
  funext c
  rw [blk_contains]
theorem rest_same (s : Bs) : restD s = trimP (cutR blanks.contains s) := by
  unfold restD cutR
  rw [drop_name]
  have e : (fun c => !blanks.contains c) = fun c => !blk c := funext fun c => by rw [blk_contains]
  rw [e]
  cases hD : s.dropWhile (fun c => !blk c) with
  | nil => rfl
  | cons b t =>
    have hb : blk b = true := by
      have := List.head?_dropWhile_not (fun c => !blk c) s
      rw [hD] at this
      simpa using this
    rw [List.tail_cons, lead_trim b t hb]
/-- The document's operands are the program's, but that it has none where the program has one that is empty. -/
theorem ops_same (s : Bs) : operandsP (cutR blanks.contains s) = if restD s = [] then [[]] else opsD s := by
  unfold operandsP
  rw [← parts_trim _ _ (Nat.le_refl _), ← rest_same]
  by_cases h : restD s = []
  · rw [if_pos h, h]; rfl
  · rw [if_neg h, opsD, if_neg h]
end Go.Proofs.YtmldlkcgaepaaaaGreatDoor

namespace Go.Proofs.YtmldlkcgaepaaaaGreatDoor
set_option linter.unusedVariables false
set_option linter.unusedSimpArgs false

theorem uintM_le (M : Nat) : ∀ (l : Bs) (acc u : Nat), acc ≤ M → Lib.parseUintM M acc l = .ok u → u ≤ M
  | [], acc, u, ha, h => by
    rw [Lib.parseUintM] at h
    injection h with h
    omega
  | c :: r, acc, u, ha, h => by
    rw [Lib.parseUintM] at h
    split at h
    · split at h
      · cases h
      · split at h
        · cases h
        · exact uintM_le M r _ u (by omega) h
    · cases h
theorem uint32_le {s : Bs} {u : Nat} (h : Lib.parseUintB 32 s = .ok u) : u ≤ 4294967295 := by
  unfold Lib.parseUintB at h
  split at h
  · cases h
  · exact uintM_le _ s 0 u (by omega) h
theorem itoa_inj {a b : Int} (ha0 : -9223372036854775808 ≤ a) (ha : a ≤ 9223372036854775807) (hb0 : -9223372036854775808 ≤ b) (hb : b ≤ 9223372036854775807) (h : Lib.itoa a = Lib.itoa b) : a = b := by
  have e1 := atoi_itoa a ha0 ha
  rw [h, atoi_itoa b hb0 hb] at e1
  injection e1 with e1
  exact e1.symm
/-- Where a branch goes on, read as the document reads it. -/
def wayD (s : Bs) (a : Int) : Option Int := match numD s with
  | some n => if 0 ≤ n ∧ n < 4294967296 then (if (wayOf n a).tmod 4 = 0 then some ((wayOf n a).tdiv 4) else none) else none
  | none => none
theorem way_same (s : Bs) (a : Int) : wordsTo s a = wayD s a := by
  unfold wordsTo wayD
  cases hp : Lib.parseUintB 32 s with
  | ok u =>
    have hu := uint32_le hp
    by_cases he : Lib.itoa (u : Int) = s
    · have hn : numD s = some (u : Int) := by rw [← he]; exact numD_itoa _ (by omega) (by omega)
      simp only [he, if_true, hn]
      rw [if_pos (show (0 : Int) ≤ (u : Int) ∧ (u : Int) < 4294967296 by omega)]
    · simp only [he, if_false]
      cases hn : numD s with
      | none => rfl
      | some n =>
        simp only []
        by_cases hr : 0 ≤ n ∧ n < 4294967296
        · exfalso
          obtain ⟨e, _, _⟩ := numD_some hn
          have e2 : Lib.parseUintB 32 s = .ok n.toNat := by
            rw [e, Lib.itoa, if_neg (by omega)]
            exact uint32_dec _ (by omega)
          rw [hp] at e2
          injection e2 with e2
          exact he (by rw [e2, Int.toNat_of_nonneg hr.1]; exact e.symm)
        · rw [if_neg hr]
  | «syntax» =>
    cases hn : numD s with
    | none => rfl
    | some n =>
      simp only []
      by_cases hr : 0 ≤ n ∧ n < 4294967296
      · exfalso
        obtain ⟨e, _, _⟩ := numD_some hn
        have e2 : Lib.parseUintB 32 s = .ok n.toNat := by
          rw [e, Lib.itoa, if_neg (by omega)]
          exact uint32_dec _ (by omega)
        rw [hp] at e2
        cases e2
      · rw [if_neg hr]
  | range =>
    cases hn : numD s with
    | none => rfl
    | some n =>
      simp only []
      by_cases hr : 0 ≤ n ∧ n < 4294967296
      · exfalso
        obtain ⟨e, _, _⟩ := numD_some hn
        have e2 : Lib.parseUintB 32 s = .ok n.toNat := by
          rw [e, Lib.itoa, if_neg (by omega)]
          exact uint32_dec _ (by omega)
        rw [hp] at e2
        cases e2
      · rw [if_neg hr]
end Go.Proofs.YtmldlkcgaepaaaaGreatDoor

namespace Go.Proofs.YtmldlkcgaepaaaaGreatDoor
set_option linter.unusedVariables false
set_option linter.unusedSimpArgs false

/-! What is found by a name is a right sort of that name. -/
def soundOk (L : List (Bs × In)) (b : Bool) : Bool := L.all fun x => rightB x.2 && (nameP x.2 == x.1 && (numK x.2 == b && (x.2.A == 0 && (x.2.B == 0 && (x.2.C == 0 && x.2.N == 0)))))
theorem sound_r : soundOk (allN 64).r false = true := by kernel_rfl
theorem sound_n : soundOk (allN 64).n true = true := by kernel_rfl
theorem look_mem {α : Type} : ∀ (L : List (Bs × α)) (k : Bs) (v : α), look L k = some v → (k, v) ∈ L
  | [], k, v, h => by simp [look] at h
  | (a, b) :: L, k, v, h => by
    rw [look_cons] at h
    split at h
    · rename_i e
      injection h with h
      have e2 : a = k := e
      rw [← e2, ← h]; simp
    · exact List.mem_cons_of_mem _ (look_mem L k v h)
theorem look_sound {L : List (Bs × In)} {b : Bool} (hL : soundOk L b = true) {k : Bs} {i : In} (h : look L k = some i) : rightB i = true ∧ nameP i = k ∧ numK i = b ∧ i.A = 0 ∧ i.B = 0 ∧ i.C = 0 ∧ i.N = 0 := by
  have := List.all_eq_true.1 hL _ (look_mem L k i h)
  simp only [Bool.and_eq_true, beq_iff_eq] at this
  exact this
/-- A sort that a name and a last operand give. -/
theorem instr_sound {name last : Bs} {i : In} (h : instrP name last = some i) : rightB i = true ∧ nameP i = name ∧ (regOf last).isSome = !numK i ∧ baseI i = i := by
  unfold instrP at h
  split at h
  · rename_i hr
    obtain ⟨h1, h2, h3, hA, hB, hC, hN⟩ := look_sound sound_r h
    refine ⟨h1, h2, by rw [hr, h3]; rfl, ?_⟩
    unfold baseI
    cases i
    simp_all
  · rename_i hr
    obtain ⟨h1, h2, h3, hA, hB, hC, hN⟩ := look_sound sound_n h
    refine ⟨h1, h2, by rw [h3]; simpa using hr, ?_⟩
    unfold baseI
    cases i
    simp_all
theorem reg_canon {s : Bs} {v : Int} (h : regOf s = some v) : s = regP v := by
  obtain ⟨n, _, rfl, e⟩ := look_reg 16 s v h
  exact e
theorem cond_canon {s : Bs} {v : Int} (h : condOf s = some v) : s = condName v := by
  obtain ⟨n, _, rfl, e⟩ := (look_cond 16 s).1 v h
  exact e
/-- The fields that do not name the sort. -/
theorem with_sort {i i' : In} {k : UInt8} {s : Bs} {a : Int} (h : withP i k s a = some i') : i'.F = i.F ∧ i'.U = i.U ∧ i'.V = i.V ∧ i'.O = i.O := by
  unfold withP at h
  repeat' split at h
  all_goals first
    | (rw [Option.map_eq_some_iff] at h; obtain ⟨n, _, rfl⟩ := h; exact ⟨rfl, rfl, rfl, rfl⟩)
    | cases h
theorem fill_sort {a : Int} : ∀ (ks : Bs) (ss : List Bs) (i i' : In), fillP a i ks ss = some i' → i'.F = i.F ∧ i'.U = i.U ∧ i'.V = i.V ∧ i'.O = i.O
  | [], ss, i, i', h => by rw [fill_nil] at h; injection h with h; subst h; exact ⟨rfl, rfl, rfl, rfl⟩
  | k :: ks, [], i, i', h => by cases h
  | k :: ks, s :: ss, i, i', h => by
    rw [fill_cons, Option.bind_eq_some_iff] at h
    obtain ⟨j, h1, h2⟩ := h
    obtain ⟨a1, a2, a3, a4⟩ := with_sort h1
    obtain ⟨b1, b2, b3, b4⟩ := fill_sort ks ss j i' h2
    exact ⟨b1.trans a1, b2.trans a2, b3.trans a3, b4.trans a4⟩
theorem way_canon {s : Bs} {a n : Int} (h : wordsTo s a = some n) : s = Lib.itoa (toP a n) := by
  rw [way_same] at h
  unfold wayD at h
  cases hn : numD s with
  | none => rw [hn] at h; cases h
  | some u =>
    rw [hn] at h
    simp only [] at h
    split at h
    · rename_i hr
      split at h
      · rename_i h4
        injection h with h
        obtain ⟨e, _, _⟩ := numD_some hn
        have hw : wayOf u a = 4 * n := by
          have h9 := Int.tmod_add_mul_tdiv (wayOf u a) 4
          rw [h4, h] at h9
          omega
        have hm : (wayOf u a) % 4294967296 = (u - (a + 4)) % 4294967296 := by
          unfold wayOf sext
          rw [if_pos (by omega)]
          unfold sx
          simp
          split <;> omega
        rw [e]
        congr 1
        unfold toP
        rw [hw] at hm
        omega
      · cases h
    · cases h
theorem kinds_of {i j : In} (hF : i.F = j.F) (hU : i.U = j.U) (hV : i.V = j.V) (hO : i.O = j.O) : kindsP i = kindsP j ∧ nameP i = nameP j := by
  cases i; cases j
  simp only at hF hU hV hO
  subst hF; subst hU; subst hV; subst hO
  exact ⟨rfl, rfl⟩
theorem kinds_all (i : In) : kindsP i = [63, 64] ∨ kindsP i = [63, 67] ∨ kindsP i = [65, 66, 110] ∨ kindsP i = [110] ∨ kindsP i = [65] ∨ kindsP i = [65, 67] ∨ kindsP i = [65, 110] ∨ kindsP i = [65, 66, 67] := by
  unfold kindsP lastP
  repeat' split
  all_goals simp
/-- Operands that are read are those that are written. -/
theorem filled_sound {i0 i' : In} {l : List Bs} {a : Int} (h : filledP i0 l a = some i') : l = (kindsP i').map (operandP i' a) ∧ nameP i' = nameP i0 := by
  unfold filledP at h
  split at h
  · rename_i hlen
    obtain ⟨f1, f2, f3, f4⟩ := fill_sort _ _ _ _ h
    obtain ⟨hk, hn⟩ := kinds_of f1 f2 f3 f4
    refine ⟨?_, hn⟩
    rw [hk]
    rcases kinds_all i0 with e | e | e | e | e | e | e | e
    all_goals rw [e] at h hlen ⊢
    · obtain ⟨s1, s2, rfl⟩ : ∃ s1 s2, l = [s1, s2] := by
        match l, hlen with
        | [s1, s2], _ => exact ⟨s1, s2, rfl⟩
      simp [fill_cons, fill_nil, withP, Option.bind_eq_some_iff, Option.map_eq_some_iff] at h
      obtain ⟨_, ⟨v1, g1, rfl⟩, v2, g2, rfl⟩ := h
      have c1 := cond_canon g1
      have c2 := way_canon g2
      simp [operandP, ← c1, ← c2]
    · obtain ⟨s1, s2, rfl⟩ : ∃ s1 s2, l = [s1, s2] := by
        match l, hlen with
        | [s1, s2], _ => exact ⟨s1, s2, rfl⟩
      simp [fill_cons, fill_nil, withP, Option.bind_eq_some_iff, Option.map_eq_some_iff] at h
      obtain ⟨_, ⟨v1, g1, rfl⟩, v2, g2, rfl⟩ := h
      have c1 := cond_canon g1
      have c2 := reg_canon g2
      simp [operandP, ← c1, ← c2]
    · obtain ⟨s1, s2, s3, rfl⟩ : ∃ s1 s2 s3, l = [s1, s2, s3] := by
        match l, hlen with
        | [s1, s2, s3], _ => exact ⟨s1, s2, s3, rfl⟩
      simp [fill_cons, fill_nil, withP, Option.bind_eq_some_iff, Option.map_eq_some_iff] at h
      obtain ⟨_, ⟨v1, g1, rfl⟩, _, ⟨v2, g2, rfl⟩, v3, g3, rfl⟩ := h
      have c1 := reg_canon g1
      have c2 := reg_canon g2
      have c3 := numOf_eq g3
      simp [operandP, ← c1, ← c2, ← c3]
    · obtain ⟨s1, rfl⟩ : ∃ s1, l = [s1] := by
        match l, hlen with
        | [s1], _ => exact ⟨s1, rfl⟩
      simp [fill_cons, fill_nil, withP, Option.bind_eq_some_iff, Option.map_eq_some_iff] at h
      obtain ⟨v1, g1, rfl⟩ := h
      have c1 := numOf_eq g1
      simp [operandP, ← c1]
    · obtain ⟨s1, rfl⟩ : ∃ s1, l = [s1] := by
        match l, hlen with
        | [s1], _ => exact ⟨s1, rfl⟩
      simp [fill_cons, fill_nil, withP, Option.bind_eq_some_iff, Option.map_eq_some_iff] at h
      obtain ⟨v1, g1, rfl⟩ := h
      have c1 := reg_canon g1
      simp [operandP, ← c1]
    · obtain ⟨s1, s2, rfl⟩ : ∃ s1 s2, l = [s1, s2] := by
        match l, hlen with
        | [s1, s2], _ => exact ⟨s1, s2, rfl⟩
      simp [fill_cons, fill_nil, withP, Option.bind_eq_some_iff, Option.map_eq_some_iff] at h
      obtain ⟨_, ⟨v1, g1, rfl⟩, v2, g2, rfl⟩ := h
      have c1 := reg_canon g1
      have c2 := reg_canon g2
      simp [operandP, ← c1, ← c2]
    · obtain ⟨s1, s2, rfl⟩ : ∃ s1 s2, l = [s1, s2] := by
        match l, hlen with
        | [s1, s2], _ => exact ⟨s1, s2, rfl⟩
      simp [fill_cons, fill_nil, withP, Option.bind_eq_some_iff, Option.map_eq_some_iff] at h
      obtain ⟨_, ⟨v1, g1, rfl⟩, v2, g2, rfl⟩ := h
      have c1 := reg_canon g1
      have c2 := numOf_eq g2
      simp [operandP, ← c1, ← c2]
    · obtain ⟨s1, s2, s3, rfl⟩ : ∃ s1 s2 s3, l = [s1, s2, s3] := by
        match l, hlen with
        | [s1, s2, s3], _ => exact ⟨s1, s2, s3, rfl⟩
      simp [fill_cons, fill_nil, withP, Option.bind_eq_some_iff, Option.map_eq_some_iff] at h
      obtain ⟨_, ⟨v1, g1, rfl⟩, _, ⟨v2, g2, rfl⟩, v3, g3, rfl⟩ := h
      have c1 := reg_canon g1
      have c2 := reg_canon g2
      have c3 := reg_canon g3
      simp [operandP, ← c1, ← c2, ← c3]
  · cases h
/-- A name and operands that a right instruction is written as. -/
def Says (name : Bs) (l : List Bs) (a x : Int) : Prop := ∃ i, rightB i = true ∧ x = packV i ∧ name = nameP i ∧ l = (kindsP i).map (operandP i a)
/-- The program reads just what is written. -/
theorem word_char (s : Bs) (a x : Int) (hw : cutB blanks.contains s ≠ wordT) : wordP s a = some x ↔ Says (cutB blanks.contains s) (operandsP (cutR blanks.contains s)) a x := by
  unfold wordP
  simp only [if_neg hw]
  constructor
  · intro h
    rw [Option.bind_eq_some_iff] at h
    obtain ⟨i0, h1, h⟩ := h
    rw [Option.bind_eq_some_iff] at h
    obtain ⟨i', h2, h⟩ := h
    split at h
    · rename_i hr
      injection h with h
      obtain ⟨_, b2, _, _⟩ := instr_sound h1
      obtain ⟨c1, c2⟩ := filled_sound h2
      exact ⟨i', hr, h.symm, by rw [c2, b2], c1⟩
    · cases h
  · rintro ⟨i, hr, rfl, hn, hl⟩
    obtain ⟨s1, s2, s3, s4⟩ := sort_ok hr
    obtain ⟨xs, z, e, hy, hz, hfill⟩ := filled_back a hr
    rw [hl, hn, e, List.getLastD_concat]
    have hi : instrP (nameP i) z = some (baseI i) := by
      unfold instrP
      rw [hz]
      cases hk : numK i with
      | true => rw [hk] at s1; simpa using s1
      | false => rw [hk] at s1; simpa using s1
    rw [hi]
    simp only [Option.bind_some, hfill, hr, if_true]
end Go.Proofs.YtmldlkcgaepaaaaGreatDoor

namespace Go.Proofs.YtmldlkcgaepaaaaGreatDoor
set_option linter.unusedVariables false
set_option linter.unusedSimpArgs false

structure Fm where
  name : Bs
  i : In
  regs : Nat
  last : Bool
def mkI (f o : Int) (u v : Bool) : In := { F := f, U := u, V := v, A := 0, B := 0, O := o, C := 0, N := 0 }
def formsL : List Fm :=
  [⟨[77, 79, 86, 72], mkI 0 0 true false, 1, false⟩, ⟨[77, 79, 86, 70], mkI 0 0 true true, 1, false⟩, ⟨[84, 82, 65, 80], mkI 1 15 false false, 0, true⟩, ⟨[76, 68, 87], mkI 2 0 false false, 2, true⟩,
    ⟨[76, 68, 66], mkI 2 0 false true, 2, true⟩, ⟨[83, 84, 87], mkI 2 0 true false, 2, true⟩, ⟨[83, 84, 66], mkI 2 0 true true, 2, true⟩] ++
  (List.range 48).map fun q => ⟨opName ((q / 4 : Nat) : Int) ++ letP (decide (q % 4 % 2 = 1)) 85 ++ letP (decide (2 ≤ q % 4)) 86, mkI 1 ((q / 4 : Nat) : Int) (decide (q % 4 % 2 = 1)) (decide (2 ≤ q % 4)), if q / 4 = 0 then 1 else 2, true⟩
def regLast (i : In) (s : Bs) : Option In := match rgD s with
  | some c => if i.F = 1 ∧ i.O ≠ 15 ∧ (i.O ≠ 0 ∨ (i.U = false ∧ i.V = false)) then some { i with C := c, F := 0 } else none
  | none => none
def lastD (i : In) (s : Bs) : Option In := match numD s with
  | some n => if -2147483648 ≤ n ∧ n < 2147483648 then some { i with N := n } else regLast i s
  | none => regLast i s
def readD (f : Fm) (l : List Bs) : Option In := match f.regs, f.last, l with
  | 0, true, [s] => lastD f.i s
  | 1, false, [r] => (rgD r).map fun n => { f.i with A := n }
  | 1, true, [r, s] => (rgD r).bind fun n => lastD { f.i with A := n } s
  | 2, true, [r, q, s] => (rgD r).bind fun n => (rgD q).bind fun m => lastD { f.i with A := n, B := m } s
  | _, _, _ => none
def jmpT : Bs := [74, 77, 80]
def callT : Bs := [67, 65, 76, 76]
def branchD (name : Bs) (l : List Bs) (a : Int) : Option In := match l with
  | [c, t] => if name = jmpT ∨ name = callT then (if cfind c 16 0 < 0 then none else match rgD t with
      | some r => some { mkI 3 0 false (decide (name = callT)) with A := cfind c 16 0, C := r }
      | none => (wayD t a).map fun n => { mkI 3 0 true (decide (name = callT)) with A := cfind c 16 0, N := n }) else none
  | _ => none
def instrD (name : Bs) (l : List Bs) (a : Int) : Option In := match branchD name l a with
  | some i => some i
  | none => (formsL.find? fun f => f.name == name).bind fun f => readD f l
/-- The form of a sort that is no branch. -/
def fmOf (i : In) : Fm := ⟨nameP i, mkI (if i.F = 0 ∧ takesP i = false then 1 else i.F) i.O i.U i.V, if i.F = 2 then 2 else if i.O = 15 then 0 else if i.O = 0 then 1 else 2, !takesP i⟩
def sameF (f g : Fm) : Bool := f.name == g.name && (sameI f.i g.i && (f.regs == g.regs && f.last == g.last))
theorem sameF_eq {f g : Fm} (h : sameF f g = true) : f = g := by
  simp only [sameF, Bool.and_eq_true, beq_iff_eq] at h
  obtain ⟨h1, h2, h3, h4⟩ := h
  have := same_eq h2
  cases f; cases g
  simp_all
def okF (f : Fm) : Option Fm → Bool
  | none => false
  | some g => sameF f g
theorem okF_eq {f : Fm} {o : Option Fm} (h : okF f o = true) : o = some f := by
  cases o with
  | none => cases h
  | some g => rw [sameF_eq h]
def formsOk : Bool := (List.range 192).all fun q => !rightB (inOf (q / 64) (q / 4 % 16) (q % 4)) ||
  (okF (fmOf (inOf (q / 64) (q / 4 % 16) (q % 4))) (formsL.find? fun f => f.name == nameP (inOf (q / 64) (q / 4 % 16) (q % 4))) &&
    (!(nameP (inOf (q / 64) (q / 4 % 16) (q % 4)) == jmpT) && !(nameP (inOf (q / 64) (q / 4 % 16) (q % 4)) == callT)))
theorem forms_ok : formsOk = true := by kernel_rfl
theorem form_of {i : In} (h : rightB i = true) (h3 : i.F ≠ 3) : (formsL.find? fun f => f.name == nameP i) = some (fmOf i) ∧ nameP i ≠ jmpT ∧ nameP i ≠ callT := by
  have hb := base_right h
  have hf := (right_bd h).F
  obtain ⟨f, o, m, hfo, hm, e⟩ : ∃ f o m : Nat, (f < 3 ∧ o < 16) ∧ m < 4 ∧ baseI i = inOf f o m := by
    refine ⟨i.F.toNat, i.O.toNat, (if i.U then 2 else 0) + (if i.V then 1 else 0), by omega, by split <;> split <;> omega, ?_⟩
    have e1 : ((i.F.toNat : Nat) : Int) = i.F := by omega
    have e2 : ((i.O.toNat : Nat) : Int) = i.O := by omega
    unfold baseI inOf
    rw [e1, e2]
    cases hU : i.U <;> cases hV : i.V <;> simp
  have := List.all_eq_true.1 forms_ok (f * 64 + o * 4 + m) (by simp; omega)
  rw [show (f * 64 + o * 4 + m) / 64 = f by omega, show (f * 64 + o * 4 + m) / 4 % 16 = o by omega, show (f * 64 + o * 4 + m) % 4 = m by omega, ← e, hb] at this
  simp only [Bool.not_true, Bool.false_or, Bool.and_eq_true] at this
  obtain ⟨h1, h2, h4⟩ := this
  have hfm : fmOf (baseI i) = fmOf i := rfl
  rw [base_name, hfm] at h1
  rw [base_name] at h2 h4
  exact ⟨okF_eq h1, fun e => by rw [e] at h2; simp at h2, fun e => by rw [e] at h4; simp at h4⟩
theorem reg_num (n : Int) : numD (regP n) = none := by
  cases h : numD (regP n) with
  | none => rfl
  | some v =>
    exfalso
    have e := (numD_some h).1
    have := itoa_head v
    rw [← e] at this
    exact this (by simp [regP])
theorem num_reg (n : Int) : rgD (Lib.itoa n) = none := by rw [reg_same]; exact num_noreg n
theorem rop_movV {i : In} (h : ropB i = true) (hF : i.F = 0) (hO : i.O = 0) (hU : i.U = false) : i.V = false := by
  unfold ropB at h
  simp only [Bool.and_eq_true] at h
  have h2 := h.1.2
  rw [hO, hF, hU] at h2
  generalize i.V = V at h2
  cases V
  · rfl
  · revert h2; decide
/-- What is written is read as it is. -/
theorem instrD_back {i : In} (a : Int) (h : rightB i = true) : instrD (nameP i) ((kindsP i).map (operandP i a)) a = some i := by
  have hb := right_bd h
  obtain ⟨hA, hB, hC, hF⟩ := hb
  have rA : rgD (regP i.A) = some i.A := by rw [reg_same]; exact reg_back i.A hA.1 hA.2
  have rB : rgD (regP i.B) = some i.B := by rw [reg_same]; exact reg_back i.B hB.1 hB.2
  have rC : rgD (regP i.C) = some i.C := by rw [reg_same]; exact reg_back i.C hC.1 hC.2
  have nC := reg_num i.C
  have cA : cfind (condName i.A) 16 0 = i.A := (cond_same _).1 _ (cond_back i.A hA.1 hA.2)
  by_cases h3 : i.F = 3
  · have hF3 : i.B = 0 ∧ i.O = 0 ∧ (i.U = true ∧ i.C = 0 ∧ -8388608 ≤ i.N ∧ i.N ≤ 8388607 ∨ i.U = false ∧ i.N = 0) := by
      rcases hF with ⟨e, _⟩ | ⟨e, _⟩ | ⟨e, _⟩ | ⟨_, e⟩
      · omega
      · omega
      · omega
      · exact e
    obtain ⟨hB0, hO0, hU⟩ := hF3
    have hn : nameP i = if i.V then callT else jmpT := by simp [nameP, h3, callT, jmpT]
    have hv : decide ((if i.V then callT else jmpT) = callT) = i.V := by cases i.V <;> decide
    have hv2 : (if i.V then callT else jmpT) = jmpT ∨ (if i.V then callT else jmpT) = callT := by cases i.V <;> simp
    rcases hU with ⟨hU, hC0, hN0, hN1⟩ | ⟨hU, hN0⟩
    · have hw : wayD (Lib.itoa (toP a i.N)) a = some i.N := by rw [← way_same]; exact way_back a i.N hN0 hN1
      have hk : (kindsP i).map (operandP i a) = [condName i.A, Lib.itoa (toP a i.N)] := by simp [kindsP, h3, hU, operandP]
      rw [hn, hk]
      simp only [instrD, branchD, if_pos hv2, cA, num_reg, hw, hv, Option.map_some]
      rw [if_neg (by omega)]
      simp only []
      congr 1
      obtain ⟨F, U, V, A, B, O, C, N⟩ := i
      simp_all [mkI]
    · have hk : (kindsP i).map (operandP i a) = [condName i.A, regP i.C] := by simp [kindsP, h3, hU, operandP]
      rw [hn, hk]
      simp only [instrD, branchD, if_pos hv2, cA, rC, hv]
      rw [if_neg (by omega)]
      simp only []
      congr 1
      obtain ⟨F, U, V, A, B, O, C, N⟩ := i
      simp_all [mkI]
  · obtain ⟨hf, hj, hc⟩ := form_of h h3
    have hbr : ∀ l, branchD (nameP i) l a = none := fun l => by
      unfold branchD
      split
      · rw [if_neg (by rintro (e | e); exact hj e; exact hc e)]
      · rfl
    simp only [instrD, hbr, hf, Option.bind_some]
    clear hbr hf hj hc
    rcases hF with ⟨hF, hN, hO⟩ | ⟨hF, hC0, hN0, hN1, hO⟩ | ⟨hF, hC0, hO, hN0, hN1⟩ | ⟨hF, _⟩
    · have hr := right_rop h (.inl hF)
      by_cases hT : i.O = 15
      · have := rop_ways0 hr hF; omega
      · by_cases hO0 : i.O = 0
        · have hz := rop_mov hr hO0
          cases hU : i.U with
          | true =>
            have hk : (kindsP i).map (operandP i a) = [regP i.A] := by simp [kindsP, takesP, hF, hO0, hU, operandP]
            have hC2 := hz.2 hU
            rw [hk]
            simp [readD, fmOf, takesP, hF, hO0, hU, rA]
            obtain ⟨F, U, V, A, B, O, C, N⟩ := i
            simp_all [mkI]
          | false =>
            have hV := rop_movV hr hF hO0 hU
            have hk : (kindsP i).map (operandP i a) = [regP i.A, regP i.C] := by simp [kindsP, takesP, lastP, hF, hO0, hU, operandP]
            rw [hk]
            simp [readD, fmOf, takesP, hF, hO0, hU, rA, lastD, nC, regLast, rC, mkI, hV]
            obtain ⟨F, U, V, A, B, O, C, N⟩ := i
            simp_all [mkI]
        · have hk : (kindsP i).map (operandP i a) = [regP i.A, regP i.B, regP i.C] := by simp [kindsP, takesP, lastP, hF, hO0, hT, operandP]
          rw [hk]
          simp [readD, fmOf, takesP, hF, hO0, hT, rA, rB, lastD, nC, regLast, rC, mkI]
          obtain ⟨F, U, V, A, B, O, C, N⟩ := i
          simp_all [mkI]
    · have hr := right_rop h (.inr hF)
      have hnum := numD_itoa i.N (by omega) (by omega)
      have hrg : -2147483648 ≤ i.N ∧ i.N < 2147483648 := by omega
      by_cases hT : i.O = 15
      · have hz := rop_trap0 hr hT
        have hk : (kindsP i).map (operandP i a) = [Lib.itoa i.N] := by simp [kindsP, takesP, hF, hT, operandP]
        rw [hk]
        simp [readD, fmOf, takesP, hF, hT, lastD, hnum, mkI]
        rw [if_pos hrg]
        obtain ⟨F, U, V, A, B, O, C, N⟩ := i
        simp_all [mkI]
      · by_cases hO0 : i.O = 0
        · have hz := rop_mov hr hO0
          have hk : (kindsP i).map (operandP i a) = [regP i.A, Lib.itoa i.N] := by simp [kindsP, takesP, lastP, hF, hO0, operandP]
          rw [hk]
          simp [readD, fmOf, takesP, hF, hO0, rA, lastD, hnum, mkI]
          rw [if_pos hrg]
          obtain ⟨F, U, V, A, B, O, C, N⟩ := i
          simp_all [mkI]
        · have hk : (kindsP i).map (operandP i a) = [regP i.A, regP i.B, Lib.itoa i.N] := by simp [kindsP, takesP, lastP, hF, hO0, hT, operandP]
          rw [hk]
          simp [readD, fmOf, takesP, hF, hO0, hT, rA, rB, lastD, hnum, mkI]
          rw [if_pos hrg]
          obtain ⟨F, U, V, A, B, O, C, N⟩ := i
          simp_all [mkI]
    · have hnum := numD_itoa i.N (by omega) (by omega)
      have hrg : -2147483648 ≤ i.N ∧ i.N < 2147483648 := by omega
      have hk : (kindsP i).map (operandP i a) = [regP i.A, regP i.B, Lib.itoa i.N] := by simp [kindsP, hF, operandP]
      rw [hk]
      simp [readD, fmOf, takesP, hF, rA, rB, lastD, hnum, mkI]
      rw [if_pos hrg]
      obtain ⟨F, U, V, A, B, O, C, N⟩ := i
      simp_all [mkI]
    · exact absurd hF h3

/-! And the way back. -/
def lets (n : Nat) : Bs := if n = 0 then [] else if n = 1 then [65] else [65, 66]
def reckB (i : In) : Bool := decide (i.F = 1 ∧ i.O ≠ 15 ∧ (i.O ≠ 0 ∨ (i.U = false ∧ i.V = false)))
def soundF (f : Fm) : Bool := decide (f.regs ≤ 2) && (nameP f.i == f.name && (if f.last then kindsP f.i == lets f.regs ++ [110] && (!reckB f.i || (nameP { f.i with F := 0 } == f.name && kindsP { f.i with F := 0 } == lets f.regs ++ [67])) else kindsP f.i == lets f.regs))
theorem forms_sound : (formsL.all soundF) = true := by kernel_rfl
theorem rg_canon {s : Bs} {v : Int} (h : rgD s = some v) : s = regP v := by rw [reg_same] at h; exact reg_canon h
/-- What the last operand makes of an instruction. -/
theorem last_sound {i j : In} {s : Bs} (h : lastD i s = some j) : (∃ n, j = { i with N := n } ∧ s = Lib.itoa n) ∨ (reckB i = true ∧ ∃ c, j = { i with C := c, F := 0 } ∧ s = regP c) := by
  have key : regLast i s = some j → reckB i = true ∧ ∃ c, j = { i with C := c, F := 0 } ∧ s = regP c := fun h => by
    unfold regLast at h
    cases hc : rgD s with
    | none => rw [hc] at h; cases h
    | some c =>
      rw [hc] at h
      simp only [] at h
      split at h
      · rename_i hr
        injection h with h
        exact ⟨by simp only [reckB, decide_eq_true_eq]; exact hr, c, h.symm, rg_canon hc⟩
      · cases h
  unfold lastD at h
  cases hn : numD s with
  | none => rw [hn] at h; exact .inr (key h)
  | some n =>
    rw [hn] at h
    simp only [] at h
    split at h
    · injection h with h
      exact .inl ⟨n, h.symm, (numD_some hn).1⟩
    · exact .inr (key h)
theorem read_sound {f : Fm} {l : List Bs} {i : In} (a : Int) (hf : soundF f = true) (h : readD f l = some i) : f.name = nameP i ∧ l = (kindsP i).map (operandP i a) := by
  simp only [soundF, Bool.and_eq_true, beq_iff_eq, decide_eq_true_eq] at hf
  obtain ⟨hreg, hname, hk⟩ := hf
  obtain ⟨nm, fi, regs, last⟩ := f
  simp only at hreg hname hk h ⊢
  unfold readD at h
  simp only at h
  split at h
  · rename_i s
    simp only [if_true, Bool.and_eq_true, beq_iff_eq, lets] at hk
    rcases last_sound h with ⟨n, rfl, e⟩ | ⟨hr, c, rfl, e⟩
    · obtain ⟨k1, k2⟩ := kinds_of (i := { fi with N := n }) (j := fi) rfl rfl rfl rfl
      rw [k1, k2, hk.1]
      exact ⟨hname.symm, by simp [operandP, e]⟩
    · rw [hr] at hk
      simp only [Bool.not_true, Bool.false_or, Bool.and_eq_true, beq_iff_eq] at hk
      obtain ⟨k1, k2⟩ := kinds_of (i := { fi with C := c, F := 0 }) (j := { fi with F := 0 }) rfl rfl rfl rfl
      rw [k1, k2, hk.2.1, hk.2.2]
      exact ⟨rfl, by simp [operandP, e]⟩
  · rename_i r
    simp only [Bool.false_eq_true, if_false, beq_iff_eq, lets] at hk
    rw [Option.map_eq_some_iff] at h
    obtain ⟨n, h1, rfl⟩ := h
    obtain ⟨k1, k2⟩ := kinds_of (i := { fi with A := n }) (j := fi) rfl rfl rfl rfl
    rw [k1, k2, hk]
    exact ⟨hname.symm, by simp [operandP, rg_canon h1]⟩
  · rename_i r s
    simp only [if_true, Bool.and_eq_true, beq_iff_eq, lets] at hk
    rw [Option.bind_eq_some_iff] at h
    obtain ⟨n, h1, h⟩ := h
    rcases last_sound h with ⟨v, rfl, e⟩ | ⟨hr, c, rfl, e⟩
    · obtain ⟨k1, k2⟩ := kinds_of (i := { fi with A := n, N := v }) (j := fi) rfl rfl rfl rfl
      rw [k1, k2, hk.1]
      exact ⟨hname.symm, by simp [operandP, e, rg_canon h1]⟩
    · have hr2 : reckB fi = true := hr
      rw [hr2] at hk
      simp only [Bool.not_true, Bool.false_or, Bool.and_eq_true, beq_iff_eq] at hk
      obtain ⟨k1, k2⟩ := kinds_of (i := { fi with A := n, C := c, F := 0 }) (j := { fi with F := 0 }) rfl rfl rfl rfl
      rw [k1, k2, hk.2.1, hk.2.2]
      exact ⟨rfl, by simp [operandP, e, rg_canon h1]⟩
  · rename_i r q s
    simp only [if_true, Bool.and_eq_true, beq_iff_eq, lets] at hk
    rw [Option.bind_eq_some_iff] at h
    obtain ⟨n, h1, h⟩ := h
    rw [Option.bind_eq_some_iff] at h
    obtain ⟨m, h2, h⟩ := h
    rcases last_sound h with ⟨v, rfl, e⟩ | ⟨hr, c, rfl, e⟩
    · obtain ⟨k1, k2⟩ := kinds_of (i := { fi with A := n, B := m, N := v }) (j := fi) rfl rfl rfl rfl
      rw [k1, k2, hk.1]
      exact ⟨hname.symm, by simp [operandP, e, rg_canon h1, rg_canon h2]⟩
    · have hr2 : reckB fi = true := hr
      rw [hr2] at hk
      simp only [Bool.not_true, Bool.false_or, Bool.and_eq_true, beq_iff_eq] at hk
      obtain ⟨k1, k2⟩ := kinds_of (i := { fi with A := n, B := m, C := c, F := 0 }) (j := { fi with F := 0 }) rfl rfl rfl rfl
      rw [k1, k2, hk.2.1, hk.2.2]
      exact ⟨rfl, by simp [operandP, e, rg_canon h1, rg_canon h2]⟩
  · cases h
theorem cfind_canon {c : Bs} (h : ¬ cfind c 16 0 < 0) : c = condName (cfind c 16 0) := by
  rcases cfind_spec c 16 0 with ⟨h1, _⟩ | ⟨j, _, _, h3, h4⟩
  · omega
  · rw [h4]; exact h3.symm
theorem branch_sound {name : Bs} {l : List Bs} {a : Int} {i : In} (h : branchD name l a = some i) : name = nameP i ∧ l = (kindsP i).map (operandP i a) := by
  unfold branchD at h
  split at h
  · rename_i c t
    split at h
    · rename_i hn
      split at h
      · cases h
      · rename_i hc
        have ec := cfind_canon hc
        have hname : name = if decide (name = callT) then callT else jmpT := by
          rcases hn with e | e
          · rw [e]; decide
          · rw [e]; decide
        generalize decide (name = callT) = V at h hname
        cases hr : rgD t with
        | some r =>
          rw [hr] at h
          simp only [] at h
          injection h with h
          subst h
          refine ⟨?_, ?_⟩
          · rw [hname]; cases V <;> simp [nameP, mkI, callT, jmpT]
          · simp [kindsP, mkI, operandP, ← ec, ← rg_canon hr]
        | none =>
          rw [hr] at h
          simp only [] at h
          rw [Option.map_eq_some_iff] at h
          obtain ⟨n, h1, rfl⟩ := h
          rw [← way_same] at h1
          refine ⟨?_, ?_⟩
          · rw [hname]; cases V <;> simp [nameP, mkI, callT, jmpT]
          · simp [kindsP, mkI, operandP, ← ec, ← way_canon h1]
    · cases h
  · cases h
theorem instrD_sound {name : Bs} {l : List Bs} {a : Int} {i : In} (h : instrD name l a = some i) : name = nameP i ∧ l = (kindsP i).map (operandP i a) := by
  unfold instrD at h
  cases hb : branchD name l a with
  | some j =>
    rw [hb] at h
    injection h with h
    subst h
    exact branch_sound hb
  | none =>
    rw [hb] at h
    simp only [] at h
    rw [Option.bind_eq_some_iff] at h
    obtain ⟨f, h1, h2⟩ := h
    have hm := List.mem_of_find?_eq_some h1
    have hn := List.find?_some h1
    simp only [beq_iff_eq] at hn
    obtain ⟨e1, e2⟩ := read_sound a (List.all_eq_true.1 forms_sound f hm) h2
    exact ⟨by rw [← hn]; exact e1, e2⟩
/-- What the document's word answers. -/
def wordI (name : Bs) (l : List Bs) (a : Int) : Option Int := (instrD name l a).bind fun i => if rightB i then some (packV i) else none
theorem wordI_char (name : Bs) (l : List Bs) (a x : Int) : wordI name l a = some x ↔ Says name l a x := by
  unfold wordI
  constructor
  · intro h
    rw [Option.bind_eq_some_iff] at h
    obtain ⟨i, h1, h⟩ := h
    split at h
    · rename_i hr
      injection h with h
      obtain ⟨e1, e2⟩ := instrD_sound h1
      exact ⟨i, hr, h.symm, e1, e2⟩
    · cases h
  · rintro ⟨i, hr, rfl, rfl, rfl⟩
    rw [instrD_back a hr]
    simp [hr]
end Go.Proofs.YtmldlkcgaepaaaaGreatDoor

namespace Go.Proofs.YtmldlkcgaepaaaaGreatDoor
set_option linter.unusedVariables false
set_option linter.unusedSimpArgs false

/-- The document's word, of a line. -/
def wordD (s : Bs) (a : Int) : Option Int := if nameD s = wordT then digitsP (opsD s) else wordI (nameD s) (opsD s) a
theorem kinds_ne (i : In) : kindsP i ≠ [] := by rcases kinds_all i with e | e | e | e | e | e | e | e <;> rw [e] <;> simp
theorem operand_ne {i : In} (h : rightB i = true) (a : Int) : ∀ y ∈ (kindsP i).map (operandP i a), y ≠ [] := by
  obtain ⟨xs, z, e, hy, _, _⟩ := filled_back a h
  rw [e]
  exact fun y hyy => (hy y hyy).2
theorem says_nil (name : Bs) (a x : Int) : ¬ Says name [] a x := by
  rintro ⟨i, _, _, _, h⟩
  have := congrArg List.length h
  have hk := List.length_pos_iff.2 (kinds_ne i)
  simp at this
  omega
theorem says_empty (name : Bs) (a x : Int) : ¬ Says name [[]] a x := by
  rintro ⟨i, hr, _, _, h⟩
  exact operand_ne hr a [] (by rw [← h]; simp) rfl
theorem word_same (s : Bs) (a : Int) : wordP s a = wordD s a := by
  unfold wordD
  by_cases hw : nameD s = wordT
  · rw [if_pos hw]
    unfold wordP
    simp only [name_same, hw, if_true]
    rw [ops_same]
    by_cases h : restD s = []
    · have : opsD s = [] := by rw [opsD, if_pos h]
      rw [if_pos h, this]
      rfl
    · rw [if_neg h]
  · rw [if_neg hw]
    have hw2 : cutB blanks.contains s ≠ wordT := by rw [name_same]; exact hw
    apply Option.ext
    intro x
    rw [word_char s a x hw2, wordI_char, name_same, ops_same]
    by_cases h : restD s = []
    · have : opsD s = [] := by rw [opsD, if_pos h]
      rw [if_pos h, this]
      exact ⟨fun hh => absurd hh (says_empty _ _ _), fun hh => absurd hh (says_nil _ _ _)⟩
    · rw [if_neg h]
end Go.Proofs.YtmldlkcgaepaaaaGreatDoor
