/-
  Numbers written in digits, and read again: plain.
-/
import Derived.Test.YtphogfomlmjeiaaDoorAll
namespace Go.Proofs.YtphogfomlmjeiaaDoor
set_option linter.unusedVariables false
set_option linter.unusedSimpArgs false
open Go.RowKit

def hx (d : Nat) : UInt8 := UInt8.ofNat (if d < 10 then 48 + d else 55 + d)
theorem hx_toNat {d : Nat} (h : d < 16) : (hx d).toNat = if d < 10 then 48 + d else 55 + d := by
  unfold hx; rw [UInt8.toNat_ofNat']; split <;> omega
theorem hx_val {d : Nat} (h : d < 16) : digV ((hx d).toNat : Int) = d := by
  rw [hx_toNat h]
  unfold digV digI
  by_cases h1 : d < 10
  · rw [if_pos h1, if_pos (by simp; omega)]; omega
  · rw [if_neg h1, if_neg (by simp; omega), if_pos (by omega)]; omega
theorem hx_wch {d : Nat} (h : d < 16) : wch (hx d) = true := by
  simp only [wch, lett, dig, ltrI, digI, hx_toNat h]
  by_cases h1 : d < 10
  · simp [h1]; omega
  · simp [h1]; omega
theorem hx_dig {d : Nat} (h : d < 10) : dig (hx d) = true := by
  simp only [dig, digI, hx_toNat (show d < 16 by omega)]
  simp [h]; omega
def dgs (b : Nat) : Nat → Nat → Bs
  | 0, _ => []
  | f + 1, n => if n < b then [hx n] else dgs b f (n / b) ++ [hx (n % b)]
theorem dgs_fuel {b : Nat} (hb : 2 ≤ b) : ∀ (f g n : Nat), 1 ≤ f → 1 ≤ g → n < b ^ f → n < b ^ g → dgs b f n = dgs b g n
  | 0, _, _, h, _, _, _ => by omega
  | _ + 1, 0, _, _, h, _, _ => by omega
  | f + 1, g + 1, n, _, _, hf, hg => by
    rw [dgs, dgs]
    by_cases hn : n < b
    · rw [if_pos hn, if_pos hn]
    · rw [if_neg hn, if_neg hn]
      have h1 : n / b < b ^ f := Nat.div_lt_of_lt_mul (by rw [Nat.pow_succ, Nat.mul_comm] at hf; exact hf)
      have h2 : n / b < b ^ g := Nat.div_lt_of_lt_mul (by rw [Nat.pow_succ, Nat.mul_comm] at hg; exact hg)
      have hp : 0 < n / b := Nat.div_pos (by omega) (by omega)
      have f1 : 1 ≤ f := by
        rcases Nat.eq_zero_or_pos f with h | h
        · subst h; rw [Nat.pow_zero] at h1; omega
        · exact h
      have g1 : 1 ≤ g := by
        rcases Nat.eq_zero_or_pos g with h | h
        · subst h; rw [Nat.pow_zero] at h2; omega
        · exact h
      rw [dgs_fuel hb f g _ f1 g1 h1 h2]
def D (b n : Nat) : Bs := dgs b 64 n
theorem big_pow {b n : Nat} (hb : 2 ≤ b) (hn : n < 18446744073709551616) : n < b ^ 64 :=
  Nat.lt_of_lt_of_le hn (Nat.le_trans (by decide) (Nat.pow_le_pow_left hb 64))
theorem D_small {b n : Nat} (h : n < b) : D b n = [hx n] := by unfold D; rw [dgs, if_pos h]
theorem D_big {b n : Nat} (hb : 2 ≤ b) (h : ¬ n < b) (hn : n < 18446744073709551616) : D b n = D b (n / b) ++ [hx (n % b)] := by
  have h64 := big_pow hb hn
  unfold D
  rw [dgs, if_neg h]
  congr 1
  have h1 : n / b < b ^ 63 := Nat.div_lt_of_lt_mul (by rw [show (64 : Nat) = 63 + 1 from rfl, Nat.pow_succ, Nat.mul_comm] at h64; exact h64)
  exact dgs_fuel hb 63 64 _ (by omega) (by omega) h1 (Nat.lt_of_le_of_lt (Nat.div_le_self _ _) h64)
theorem dgs_all {b : Nat} (hb : 2 ≤ b) (P : UInt8 → Prop) (h : ∀ d, d < b → P (hx d)) : ∀ (f n : Nat), ∀ x ∈ dgs b f n, P x
  | 0, _, x, hx => by cases hx
  | f + 1, n, x, hx => by
    rw [dgs] at hx
    split at hx
    · simp only [List.mem_singleton] at hx; rw [hx]; exact h _ (by assumption)
    · rcases List.mem_append.1 hx with h1 | h1
      · exact dgs_all hb P h f _ x h1
      · simp only [List.mem_singleton] at h1; rw [h1]; exact h _ (Nat.mod_lt _ (by omega))
theorem D_ne {b : Nat} (n : Nat) : D b n ≠ [] := by
  unfold D; rw [dgs]; split <;> simp
theorem dgs_len {b : Nat} : ∀ (f n : Nat), (dgs b f n).length ≤ f
  | 0, _ => by simp [dgs]
  | f + 1, n => by rw [dgs]; split; · simp
                   · have := dgs_len (b := b) f (n / b); simp; omega
theorem D_len {b : Nat} (n : Nat) : (D b n).length ≤ 64 := dgs_len 64 n
theorem valP_app (base most : Int) : ∀ (a b : Bs) (n : Int), valP base most n (a ++ b) = (valP base most n a).bind fun m => valP base most m b
  | [], b, n => rfl
  | c :: r, b, n => by
    rw [List.cons_append, valP, valP]
    split
    · rfl
    · split
      · rfl
      · exact valP_app base most r b _
theorem valP_dgs {b : Nat} (hb : 2 ≤ b) (hb2 : b ≤ 16) (most : Int) (hm : 0 ≤ most) : ∀ (f n : Nat), n < b ^ f → valP b most 0 (dgs b f n) = if (n : Int) ≤ most then some (n : Int) else none
  | 0, n, h => by
    obtain rfl : n = 0 := by simpa using h
    rw [dgs, valP, if_pos (by simpa using hm)]; rfl
  | f + 1, n, h => by
    rw [dgs]
    by_cases hn : n < b
    · rw [if_pos hn, valP, hx_val (by omega), if_neg (by omega)]
      by_cases h2 : (n : Int) ≤ most
      · rw [if_neg (by omega), if_pos h2, valP]; simp
      · rw [if_pos (by omega), if_neg h2]
    · rw [if_neg hn, valP_app, valP_dgs hb hb2 most hm f (n / b) (Nat.div_lt_of_lt_mul (by rw [Nat.pow_succ, Nat.mul_comm] at h; exact h))]
      have hdm : (((n / b : Nat) : Int) * (b : Int)) + ((n % b : Nat) : Int) = (n : Int) := by
        have := Nat.div_add_mod n b
        rw [Nat.mul_comm] at this
        exact_mod_cast this
      have hmb : n % b < b := Nat.mod_lt _ (by omega)
      have hle : ((n / b : Nat) : Int) ≤ (n : Int) := by exact_mod_cast Nat.div_le_self n b
      by_cases h1 : ((n / b : Nat) : Int) ≤ most
      · rw [if_pos h1, Option.bind_some, valP, hx_val (by omega), if_neg (by omega), hdm]
        by_cases h2 : (n : Int) ≤ most
        · rw [if_neg (by omega), if_pos h2, valP]
        · rw [if_pos (by omega), if_neg h2]
      · rw [if_neg h1, if_neg (by omega)]; rfl
theorem valP_D {b : Nat} (hb : 2 ≤ b) (hb2 : b ≤ 16) (most : Int) (hm : 0 ≤ most) (n : Nat) (hn : n < 18446744073709551616) : valP b most 0 (D b n) = if (n : Int) ≤ most then some (n : Int) else none := valP_dgs hb hb2 most hm 64 n (big_pow hb hn)
theorem valP_zero (base most : Int) (hb : 2 ≤ base) (hm : 0 ≤ most) (l : Bs) : valP base most 0 (48 :: l) = valP base most 0 l := by
  have e : digV ((48 : UInt8).toNat : Int) = 0 := by decide
  rw [valP, e, if_neg (by omega), if_neg (by omega)]; simp
theorem valP_pad (base most : Int) (hb : 2 ≤ base) (hm : 0 ≤ most) (l : Bs) : ∀ k : Nat, valP base most 0 (List.replicate k 48 ++ l) = valP base most 0 l
  | 0 => rfl
  | k + 1 => by rw [List.replicate_succ, List.cons_append, valP_zero base most hb hm, valP_pad base most hb hm l k]
theorem tw_all {p : UInt8 → Bool} : ∀ {l : Bs}, (∀ x ∈ l, p x = true) → l.takeWhile p = l
  | [], _ => rfl
  | c :: r, h => by rw [List.takeWhile_cons, h c (by simp), if_pos rfl, tw_all fun x hx => h x (by simp [hx])]
theorem numP_len (w : Bs) (h : (numP w).e = 0) : (numP w).len = w.length ∧ (numP w).k ≠ 0 := by
  unfold numP at h ⊢
  split at h
  · rename_i h1; rw [if_pos h1]; revert h; cases valP 16 4294967295 0 w.dropLast <;> simp [numT, Rd.bad]
  · rename_i h1; rw [if_neg h1]
    split at h
    · rename_i h2; rw [if_pos h2]; revert h; cases valP 16 255 0 w.dropLast <;> simp [numT, Rd.bad]
    · rename_i h2; rw [if_neg h2]; revert h; cases valP 10 2147483647 0 w <;> simp [numT, Rd.bad]
theorem dig_not {c : UInt8} (h : dig c = true) : blk c = false ∧ lett c = false ∧ c ≠ 40 := by
  simp only [dig, digI, Bool.and_eq_true, decide_eq_true_eq] at h
  refine ⟨by simp [blk, blkI]; omega, by simp [lett, ltrI]; omega, fun e => ?_⟩
  rw [e] at h
  have : ((40 : UInt8).toNat : Int) = 40 := rfl
  omega
theorem opens_head {c : UInt8} {r : Bs} (h : c ≠ 40) : opens (c :: r) = false := by
  cases r with
  | nil => rfl
  | cons b r => simp [opens, h]
theorem remN_closed {l : Bs} (h : opens l = false) : remN l = 0 := by unfold remN; rw [h]; rfl
/-- A word that begins with a digit, and nothing behind it. -/
theorem num_first {W : Bs} {c : UInt8} {r : Bs} (hW : W = c :: r) (hd : dig c = true) (hw : ∀ x ∈ W, wch x = true) : skip W = 0 ∧ firstP W = numP W := by
  obtain ⟨h1, h2, h3⟩ := dig_not hd
  have ho : opens W = false := by rw [hW]; exact opens_head h3
  refine ⟨by rw [hW] at ho ⊢; exact skip_stop h1 (remN_closed ho), ?_⟩
  have e : firstP W = firstC c W := by rw [hW]; rfl
  rw [e, firstC, ho, h2, hd, wordL, tw_all hw]; simp
theorem goX_num (p : Nat) {l W : Bs} {c : UInt8} {r : Bs} (hl : l.drop (skip l) = W) (hW : W = c :: r) (hd : dig c = true) (hw : ∀ x ∈ W, wch x = true) :
    ((numP W).e ≠ 0 → goX p l = ⟨[], p + skip l, (numP W).e⟩) ∧ ((numP W).e = 0 → goX p l = ⟨[⟨(numP W).k, (numP W).t, (numP W).n, p + skip l⟩, ⟨0, [], 0, p + l.length⟩], 0, 0⟩) := by
  have hf := (num_first hW hd hw).2
  refine ⟨fun h => goX_bad p l _ (by rw [hl, hf]) h, fun h => ?_⟩
  obtain ⟨h1, h2⟩ := numP_len W h
  have hs := skip_le l
  have hlen : l.length - skip l = W.length := by rw [← hl, List.length_drop]
  obtain ⟨g1, g2, g3⟩ := goX_step p l (numP W) (by rw [hl, hf]) h h2
  rw [g1, h1, List.drop_of_length_le (by omega), goX_end _ [] rfl rfl, show p + skip l + W.length + skip [] = p + l.length by rw [skip_nil]; omega]
  rfl
end Go.Proofs.YtphogfomlmjeiaaDoor
