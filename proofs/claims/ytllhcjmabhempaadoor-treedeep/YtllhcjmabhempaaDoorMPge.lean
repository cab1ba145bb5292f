/-
  Numbers written in digits, and read again: plain.
  Up to the place of a token, or of a fault, a text is read by itself: plain.
  Layer 8, plain: a text that is read, with a blank and more behind it. Nothing of the program's run is in this text.
  Layer 9, plain: readers as programs. Nothing of the program's run is in this text.
  Layer 9, plain: tokens, trees and readers that are alike. Nothing of the program's run is in this text.
  Layer 9, plain: expressions that are alike. Nothing of the program's run is in this text.
  Layer 9, plain: no end is passed, the fuel is enough. Nothing of the program's run is in this text.
  Layer 9, plain: modules that are alike up to a point. Nothing of the program's run is in this text.
-/
import Derived.Test.YtllhcjmabhempaaDoorAll
import Derived.Test.YtllhcjmabhempaaDoorMpl
namespace Go.Proofs.YtllhcjmabhempaaDoor
set_option linter.unusedVariables false
set_option linter.unusedSimpArgs false
open Go.RowKit

def hx (d : Nat) : UInt8 := UInt8.ofNat (if d < 10 then 48 + d else 55 + d)
theorem hx_toNat {d : Nat} (h : d < 16) : (hx d).toNat = if d < 10 then 48 + d else 55 + d := by
  unfold hx; rw [UInt8.toNat_ofNat']; split <;> omega
theorem hx_val {d : Nat} (h : d < 16) : digV ((hx d).toNat : Int) = d := by
  rw [hx_toNat h]
  unfold digV digI
  by_cases h1 : d < 10
  · rw [if_pos h1, if_pos (by simp; omega)]; omega
  · rw [if_neg h1, if_neg (by simp; omega), if_pos (by omega)]; omega
theorem hx_wch {d : Nat} (h : d < 16) : wch (hx d) = true := by
  simp only [wch, lett, dig, ltrI, digI, hx_toNat h]
  by_cases h1 : d < 10
  · simp [h1]; omega
  · simp [h1]; omega
theorem hx_dig {d : Nat} (h : d < 10) : dig (hx d) = true := by
  simp only [dig, digI, hx_toNat (show d < 16 by omega)]
  simp [h]; omega
def dgs (b : Nat) : Nat → Nat → Bs
  | 0, _ => []
  | f + 1, n => if n < b then [hx n] else dgs b f (n / b) ++ [hx (n % b)]
theorem dgs_fuel {b : Nat} (hb : 2 ≤ b) : ∀ (f g n : Nat), 1 ≤ f → 1 ≤ g → n < b ^ f → n < b ^ g → dgs b f n = dgs b g n
  | 0, _, _, h, _, _, _ => by omega
  | _ + 1, 0, _, _, h, _, _ => by omega
  | f + 1, g + 1, n, _, _, hf, hg => by
    rw [dgs, dgs]
    by_cases hn : n < b
    · rw [if_pos hn, if_pos hn]
    · rw [if_neg hn, if_neg hn]
      have h1 : n / b < b ^ f := Nat.div_lt_of_lt_mul (by rw [Nat.pow_succ, Nat.mul_comm] at hf; exact hf)
      have h2 : n / b < b ^ g := Nat.div_lt_of_lt_mul (by rw [Nat.pow_succ, Nat.mul_comm] at hg; exact hg)
      have hp : 0 < n / b := Nat.div_pos (by omega) (by omega)
      have f1 : 1 ≤ f := by
        rcases Nat.eq_zero_or_pos f with h | h
        · subst h; rw [Nat.pow_zero] at h1; omega
        · exact h
      have g1 : 1 ≤ g := by
        rcases Nat.eq_zero_or_pos g with h | h
        · subst h; rw [Nat.pow_zero] at h2; omega
        · exact h
      rw [dgs_fuel hb f g _ f1 g1 h1 h2]
def D (b n : Nat) : Bs := dgs b 64 n
theorem big_pow {b n : Nat} (hb : 2 ≤ b) (hn : n < 18446744073709551616) : n < b ^ 64 :=
  Nat.lt_of_lt_of_le hn (Nat.le_trans (by decide) (Nat.pow_le_pow_left hb 64))
theorem D_small {b n : Nat} (h : n < b) : D b n = [hx n] := by unfold D; rw [dgs, if_pos h]
theorem D_big {b n : Nat} (hb : 2 ≤ b) (h : ¬ n < b) (hn : n < 18446744073709551616) : D b n = D b (n / b) ++ [hx (n % b)] := by
  have h64 := big_pow hb hn
  unfold D
  rw [dgs, if_neg h]
  congr 1
  have h1 : n / b < b ^ 63 := Nat.div_lt_of_lt_mul (by rw [show (64 : Nat) = 63 + 1 from rfl, Nat.pow_succ, Nat.mul_comm] at h64; exact h64)
  exact dgs_fuel hb 63 64 _ (by omega) (by omega) h1 (Nat.lt_of_le_of_lt (Nat.div_le_self _ _) h64)
theorem dgs_all {b : Nat} (hb : 2 ≤ b) (P : UInt8 → Prop) (h : ∀ d, d < b → P (hx d)) : ∀ (f n : Nat), ∀ x ∈ dgs b f n, P x
  | 0, _, x, hx => by cases hx
  | f + 1, n, x, hx => by
    rw [dgs] at hx
    split at hx
    · simp only [List.mem_singleton] at hx; rw [hx]; exact h _ (by assumption)
    · rcases List.mem_append.1 hx with h1 | h1
      · exact dgs_all hb P h f _ x h1
      · simp only [List.mem_singleton] at h1; rw [h1]; exact h _ (Nat.mod_lt _ (by omega))
theorem D_ne {b : Nat} (n : Nat) : D b n ≠ [] := by
  unfold D; rw [dgs]; split <;> simp
theorem dgs_len {b : Nat} : ∀ (f n : Nat), (dgs b f n).length ≤ f
  | 0, _ => by simp [dgs]
  | f + 1, n => by rw [dgs]; split; · simp
                   · have := dgs_len (b := b) f (n / b); simp; omega
theorem D_len {b : Nat} (n : Nat) : (D b n).length ≤ 64 := dgs_len 64 n
theorem valP_app (base most : Int) : ∀ (a b : Bs) (n : Int), valP base most n (a ++ b) = (valP base most n a).bind fun m => valP base most m b
  | [], b, n => rfl
  | c :: r, b, n => by
    rw [List.cons_append, valP, valP]
    split
    · rfl
    · split
      · rfl
      · exact valP_app base most r b _
theorem valP_dgs {b : Nat} (hb : 2 ≤ b) (hb2 : b ≤ 16) (most : Int) (hm : 0 ≤ most) : ∀ (f n : Nat), n < b ^ f → valP b most 0 (dgs b f n) = if (n : Int) ≤ most then some (n : Int) else none
  | 0, n, h => by
    obtain rfl : n = 0 := by simpa using h
    rw [dgs, valP, if_pos (by simpa using hm)]; rfl
  | f + 1, n, h => by
    rw [dgs]
    by_cases hn : n < b
    · rw [if_pos hn, valP, hx_val (by omega), if_neg (by omega)]
      by_cases h2 : (n : Int) ≤ most
      · rw [if_neg (by omega), if_pos h2, valP]; simp
      · rw [if_pos (by omega), if_neg h2]
    · rw [if_neg hn, valP_app, valP_dgs hb hb2 most hm f (n / b) (Nat.div_lt_of_lt_mul (by rw [Nat.pow_succ, Nat.mul_comm] at h; exact h))]
      have hdm : (((n / b : Nat) : Int) * (b : Int)) + ((n % b : Nat) : Int) = (n : Int) := by
        have := Nat.div_add_mod n b
        rw [Nat.mul_comm] at this
        exact_mod_cast this
      have hmb : n % b < b := Nat.mod_lt _ (by omega)
      have hle : ((n / b : Nat) : Int) ≤ (n : Int) := by exact_mod_cast Nat.div_le_self n b
      by_cases h1 : ((n / b : Nat) : Int) ≤ most
      · rw [if_pos h1, Option.bind_some, valP, hx_val (by omega), if_neg (by omega), hdm]
        by_cases h2 : (n : Int) ≤ most
        · rw [if_neg (by omega), if_pos h2, valP]
        · rw [if_pos (by omega), if_neg h2]
      · rw [if_neg h1, if_neg (by omega)]; rfl
theorem valP_D {b : Nat} (hb : 2 ≤ b) (hb2 : b ≤ 16) (most : Int) (hm : 0 ≤ most) (n : Nat) (hn : n < 18446744073709551616) : valP b most 0 (D b n) = if (n : Int) ≤ most then some (n : Int) else none := valP_dgs hb hb2 most hm 64 n (big_pow hb hn)
theorem valP_zero (base most : Int) (hb : 2 ≤ base) (hm : 0 ≤ most) (l : Bs) : valP base most 0 (48 :: l) = valP base most 0 l := by
  have e : digV ((48 : UInt8).toNat : Int) = 0 := by decide
  rw [valP, e, if_neg (by omega), if_neg (by omega)]; simp
theorem valP_pad (base most : Int) (hb : 2 ≤ base) (hm : 0 ≤ most) (l : Bs) : ∀ k : Nat, valP base most 0 (List.replicate k 48 ++ l) = valP base most 0 l
  | 0 => rfl
  | k + 1 => by rw [List.replicate_succ, List.cons_append, valP_zero base most hb hm, valP_pad base most hb hm l k]
theorem tw_all {p : UInt8 → Bool} : ∀ {l : Bs}, (∀ x ∈ l, p x = true) → l.takeWhile p = l
  | [], _ => rfl
  | c :: r, h => by rw [List.takeWhile_cons, h c (by simp), if_pos rfl, tw_all fun x hx => h x (by simp [hx])]
theorem numP_len (w : Bs) (h : (numP w).e = 0) : (numP w).len = w.length ∧ (numP w).k ≠ 0 := by
  unfold numP at h ⊢
  split at h
  · rename_i h1; rw [if_pos h1]; revert h; cases valP 16 4294967295 0 w.dropLast <;> simp [numT, Rd.bad]
  · rename_i h1; rw [if_neg h1]
    split at h
    · rename_i h2; rw [if_pos h2]; revert h; cases valP 16 255 0 w.dropLast <;> simp [numT, Rd.bad]
    · rename_i h2; rw [if_neg h2]; revert h; cases valP 10 2147483647 0 w <;> simp [numT, Rd.bad]
theorem dig_not {c : UInt8} (h : dig c = true) : blk c = false ∧ lett c = false ∧ c ≠ 40 := by
  simp only [dig, digI, Bool.and_eq_true, decide_eq_true_eq] at h
  refine ⟨by simp [blk, blkI]; omega, by simp [lett, ltrI]; omega, fun e => ?_⟩
  rw [e] at h
  have : ((40 : UInt8).toNat : Int) = 40 := rfl
  omega
theorem opens_head {c : UInt8} {r : Bs} (h : c ≠ 40) : opens (c :: r) = false := by
  cases r with
  | nil => rfl
  | cons b r => simp [opens, h]
theorem remN_closed {l : Bs} (h : opens l = false) : remN l = 0 := by unfold remN; rw [h]; rfl
/-- A word that begins with a digit, and nothing behind it. -/
theorem num_first {W : Bs} {c : UInt8} {r : Bs} (hW : W = c :: r) (hd : dig c = true) (hw : ∀ x ∈ W, wch x = true) : skip W = 0 ∧ firstP W = numP W := by
  obtain ⟨h1, h2, h3⟩ := dig_not hd
  have ho : opens W = false := by rw [hW]; exact opens_head h3
  refine ⟨by rw [hW] at ho ⊢; exact skip_stop h1 (remN_closed ho), ?_⟩
  have e : firstP W = firstC c W := by rw [hW]; rfl
  rw [e, firstC, ho, h2, hd, wordL, tw_all hw]; simp
theorem goX_num (p : Nat) {l W : Bs} {c : UInt8} {r : Bs} (hl : l.drop (skip l) = W) (hW : W = c :: r) (hd : dig c = true) (hw : ∀ x ∈ W, wch x = true) :
    ((numP W).e ≠ 0 → goX p l = ⟨[], p + skip l, (numP W).e⟩) ∧ ((numP W).e = 0 → goX p l = ⟨[⟨(numP W).k, (numP W).t, (numP W).n, p + skip l⟩, ⟨0, [], 0, p + l.length⟩], 0, 0⟩) := by
  have hf := (num_first hW hd hw).2
  refine ⟨fun h => goX_bad p l _ (by rw [hl, hf]) h, fun h => ?_⟩
  obtain ⟨h1, h2⟩ := numP_len W h
  have hs := skip_le l
  have hlen : l.length - skip l = W.length := by rw [← hl, List.length_drop]
  obtain ⟨g1, g2, g3⟩ := goX_step p l (numP W) (by rw [hl, hf]) h h2
  rw [g1, h1, List.drop_of_length_le (by omega), goX_end _ [] rfl rfl, show p + skip l + W.length + skip [] = p + l.length by rw [skip_nil]; omega]
  rfl
end Go.Proofs.YtllhcjmabhempaaDoor

namespace Go.Proofs.YtllhcjmabhempaaDoor
set_option linter.unusedVariables false
set_option linter.unusedSimpArgs false
open Go.RowKit

theorem opens_take {l : Bs} {K : Nat} (h : opens l = false) : opens (l.take K) = false := by
  match l, K with
  | [], K => simp [opens]
  | [a], 0 => rfl
  | [a], K + 1 => simp [opens]
  | a :: b :: r, 0 => rfl
  | a :: b :: r, 1 => rfl
  | a :: b :: r, K + 2 => simpa [opens] using h
theorem remP_take : ∀ (d : Nat) (l : Bs) (n K : Nat), remP d l = some n → n ≤ K → remP d (l.take K) = some n
  | _, [], _, _, h, _ => by simp [remP] at h
  | _, [_], _, _, h, _ => by simp [remP] at h
  | d, a :: b :: r, n, K, h, hk => by
    have h2 := (remP_le _ _ _ h).2
    obtain ⟨K, rfl⟩ : ∃ K', K = K' + 2 := ⟨K - 2, by omega⟩
    rw [remP] at h
    rw [List.take_succ_cons, List.take_succ_cons, remP]
    split at h
    · rename_i c; rw [if_pos c]
      obtain ⟨m, hm, rfl⟩ := Option.map_eq_some_iff.1 h
      rw [remP_take _ _ _ K hm (by omega)]; rfl
    · rename_i c; rw [if_neg c]
      split at h
      · rename_i c2; rw [if_pos c2]
        split at h
        · rename_i c3; rw [if_pos c3]; exact h
        · rename_i c3; rw [if_neg c3]
          obtain ⟨m, hm, rfl⟩ := Option.map_eq_some_iff.1 h
          rw [remP_take _ _ _ K hm (by omega)]; rfl
      · rename_i c2; rw [if_neg c2]
        obtain ⟨m, hm, rfl⟩ := Option.map_eq_some_iff.1 h
        have := remP_take _ _ _ (K + 1) hm (by omega)
        rw [List.take_succ_cons] at this
        rw [this]; rfl
theorem remP_untake : ∀ (d : Nat) (l : Bs) (n K : Nat), remP d (l.take K) = some n → remP d l = some n
  | _, [], _, _, h => by simp [remP] at h
  | _, [a], _, K, h => by cases K <;> simp [remP] at h
  | d, a :: b :: r, n, 0, h => by simp [remP] at h
  | d, a :: b :: r, n, 1, h => by simp [remP] at h
  | d, a :: b :: r, n, K + 2, h => by
    rw [List.take_succ_cons, List.take_succ_cons, remP] at h
    rw [remP]
    split at h
    · rename_i c; rw [if_pos c]
      obtain ⟨m, hm, rfl⟩ := Option.map_eq_some_iff.1 h
      rw [remP_untake _ _ _ K hm]; rfl
    · rename_i c; rw [if_neg c]
      split at h
      · rename_i c2; rw [if_pos c2]
        split at h
        · rename_i c3; rw [if_pos c3]; exact h
        · rename_i c3; rw [if_neg c3]
          obtain ⟨m, hm, rfl⟩ := Option.map_eq_some_iff.1 h
          rw [remP_untake _ _ _ K hm]; rfl
      · rename_i c2; rw [if_neg c2]
        obtain ⟨m, hm, rfl⟩ := Option.map_eq_some_iff.1 h
        rw [remP_untake _ (b :: r) _ (K + 1) (by rw [List.take_succ_cons]; exact hm)]; rfl
theorem remN_cases (l : Bs) : remN l = 0 ∨ opens l = true ∧ remP 0 l = some (remN l) := by
  unfold remN
  cases ho : opens l
  · exact .inl rfl
  · cases hr : remP 0 l with
    | none => exact .inl rfl
    | some n => exact .inr ⟨rfl, rfl⟩
theorem remN_take {l : Bs} {K : Nat} (h : remN l ≠ 0) (hk : remN l ≤ K) : remN (l.take K) = remN l := by
  rcases remN_cases l with h0 | ⟨ho, hr⟩
  · exact absurd h0 h
  · have hr2 := remP_take _ _ _ K hr hk
    have h2 := (remP_le _ _ _ hr).2
    obtain ⟨r, rfl⟩ := opens_two ho
    obtain ⟨K, rfl⟩ : ∃ K', K = K' + 2 := ⟨K - 2, by omega⟩
    unfold remN at hr2 ⊢
    rw [hr2, show opens ((40 :: 42 :: r : Bs).take (K + 2)) = true from rfl]; simp
theorem remN_untake {l : Bs} {K : Nat} (h : remN l = 0) : remN (l.take K) = 0 := by
  rcases remN_cases (l.take K) with h0 | ⟨ho, hr⟩
  · exact h0
  · have hr2 := remP_untake _ _ _ _ hr
    have ho2 : opens l = true := by
      cases ho3 : opens l
      · rw [opens_take ho3] at ho; cases ho
      · rfl
    unfold remN at h
    rw [ho2, hr2] at h
    rw [show remN (l.take K) = 0 from by simpa using h]
theorem skip_take (l : Bs) : ∀ K, skip l ≤ K → skip (l.take K) = skip l := by
  refine skip_ind (P := fun l => ∀ K, skip l ≤ K → skip (l.take K) = skip l) ?_ ?_ ?_ ?_ l.length l (Nat.le_refl _)
  · intro K _; simp
  · intro c r hb ih K hk
    rw [skip_blk hb] at hk ⊢
    obtain ⟨K, rfl⟩ : ∃ K', K = K' + 1 := ⟨K - 1, by omega⟩
    rw [List.take_succ_cons, skip_blk hb, ih K (by omega)]
  · intro l hr ih K hk
    rw [skip_rem hr] at hk ⊢
    have h1 := remN_take (K := K) hr (by omega)
    have h2 : remN (l.take K) ≠ 0 := by rw [h1]; exact hr
    rw [skip_rem h2, h1, List.drop_take, ih (K - remN l) (by omega)]
  · intro c r hb hn K hk
    rw [skip_stop hb hn]
    cases K with
    | zero => rfl
    | succ K =>
      have h1 := remN_untake (K := K + 1) hn
      rw [List.take_succ_cons] at h1 ⊢
      exact skip_stop hb h1
theorem tw_take (p : UInt8 → Bool) : ∀ (l : Bs) (K : Nat), (l.takeWhile p).length ≤ K → (l.take K).takeWhile p = l.takeWhile p
  | [], K, _ => by simp
  | c :: r, K, h => by
    rw [List.takeWhile_cons] at h
    cases hc : p c
    · cases K with
      | zero => simp [hc]
      | succ K => simp [hc]
    · rw [hc] at h
      simp only [if_true, List.length_cons] at h
      obtain ⟨K, rfl⟩ : ∃ K', K = K' + 1 := ⟨K - 1, by omega⟩
      rw [List.take_succ_cons, List.takeWhile_cons, List.takeWhile_cons, hc, if_pos rfl, if_pos rfl, tw_take p r K (by omega)]
theorem quoP_take : ∀ (k : Nat) (l : Bs) (n K : Nat), quoP k l = some n → n < k + K → quoP k (l.take K) = some n
  | _, [], _, _, h, _ => by simp [quoP] at h
  | k, c :: r, n, K, h, hk => by
    have h2 := (quoP_le _ _ _ h).1
    obtain ⟨K, rfl⟩ : ∃ K', K = K' + 1 := ⟨K - 1, by omega⟩
    rw [quoP] at h
    rw [List.take_succ_cons, quoP]
    split at h
    · rename_i c1; rw [if_pos c1]; exact h
    · rename_i c1; rw [if_neg c1]
      split at h
      · cases h
      · rename_i c2; rw [if_neg c2]; exact quoP_take _ _ _ K h (by omega)
theorem find_imp {f g : Bs → Bool} (s : Bs) (hg : g s = true) : ∀ L : List Bs, (∀ x ∈ L, g x = true → f x = true) → L.find? f = some s → L.find? g = some s
  | [], _, h => by simp at h
  | x :: r, hi, h => by
    rw [find_cons'] at h ⊢
    cases hf : f x
    · rw [hf] at h
      have : g x = false := by
        cases hgx : g x
        · rfl
        · rw [hi x (by simp) hgx] at hf; cases hf
      rw [this]
      exact find_imp s hg r (fun y hy => hi y (by simp [hy])) h
    · rw [hf] at h
      simp only [if_true, Option.some.injEq] at h
      subst h
      rw [hg, if_pos rfl]
theorem pre_take {s l : Bs} {K : Nat} (h : s.isPrefixOf l = true) (hk : s.length ≤ K) : s.isPrefixOf (l.take K) = true := by
  rw [List.isPrefixOf_iff_prefix] at h ⊢
  obtain ⟨t, rfl⟩ := h
  rw [List.take_append]
  exact ⟨t.take (K - s.length), by rw [List.take_of_length_le hk]⟩
theorem pre_untake {s l : Bs} {K : Nat} (h : s.isPrefixOf (l.take K) = true) : s.isPrefixOf l = true := by
  rw [List.isPrefixOf_iff_prefix] at h ⊢
  exact h.trans (List.take_prefix K l)
theorem nameP_len (w : Bs) (h : (nameP w).e = 0) : (nameP w).len = w.length := by
  unfold nameP at h ⊢
  split at h
  · rename_i c; rw [if_pos c]
  · rename_i c; rw [if_neg c]
    split at h
    · rename_i c2; rw [if_pos c2]
    · simp [Rd.bad] at h
/-- A token is read by itself. -/
theorem first_take {c : UInt8} {t : Bs} (h : (firstP (c :: t)).e = 0) (K : Nat) (hk : (firstP (c :: t)).len ≤ K) : firstP ((c :: t).take K) = firstP (c :: t) := by
  have h1 := (first_len h).1
  obtain ⟨K, rfl⟩ : ∃ K', K = K' + 1 := ⟨K - 1, by omega⟩
  rw [List.take_succ_cons, firstP, firstP]
  have e0 : c :: t.take K = (c :: t).take (K + 1) := rfl
  rw [firstP] at h hk
  unfold firstC at h hk ⊢
  cases ho : opens (c :: t)
  · rw [ho] at h hk
    rw [e0, opens_take ho]
    simp only [Bool.false_eq_true, if_false] at h hk ⊢
    by_cases hl : lett c = true
    · rw [if_pos hl] at h hk ⊢
      rw [if_pos hl]
      rw [nameP_len _ h] at hk
      rw [wordL, tw_take wch _ _ hk, ← wordL]
    · rw [if_neg hl] at h hk ⊢
      rw [if_neg hl]
      by_cases hd : dig c = true
      · rw [if_pos hd] at h hk ⊢
        rw [if_pos hd]
        rw [(numP_len _ h).1] at hk
        rw [wordL, tw_take wch _ _ hk, ← wordL]
      · rw [if_neg hd] at h hk ⊢
        rw [if_neg hd]
        by_cases hq : c = 34
        · rw [if_pos hq] at h hk ⊢
          rw [if_pos hq]
          unfold quotedP at h hk ⊢
          rw [← e0, List.tail_cons, List.tail_cons] at *
          cases hv : quoP 0 t with
          | none => rw [hv] at h; simp [quoT, Rd.bad] at h
          | some k =>
            rw [hv] at hk
            have hk : k + 2 ≤ K + 1 := hk
            rw [quoP_take 0 t k K hv (by omega)]
            simp only [quoT]
            rw [List.take_take, Nat.min_eq_left (by omega)]
        · rw [if_neg hq] at h hk ⊢
          rw [if_neg hq]
          unfold signP at h hk ⊢
          cases hv : signsL.find? (fun s => s.isPrefixOf (c :: t)) with
          | none => rw [hv] at h; simp [signT, Rd.bad] at h
          | some s =>
            rw [hv] at hk
            have hk : s.length ≤ K + 1 := hk
            rw [find_imp (f := fun s => s.isPrefixOf (c :: t)) (g := fun s => s.isPrefixOf ((c :: t).take (K + 1))) s (pre_take (l := c :: t) (by have := List.find?_some hv; exact this) hk) signsL (fun x _ hx => pre_untake hx) hv]
  · rw [ho] at h; simp [Rd.bad] at h
/-- The step of a reading, of a text and of what it begins with. -/
theorem step_take (p : Nat) (l : Bs) (r : Rd) (hr : firstP (l.drop (skip l)) = r) (he : r.e = 0) (hk : r.k ≠ 0) (K : Nat) (hK : skip l + r.len ≤ K) :
    goX p (l.take K) = (goX (p + skip l + r.len) ((l.drop (skip l + r.len)).take (K - (skip l + r.len)))).pre [⟨r.k, r.t, r.n, p + skip l⟩] := by
  have hs := skip_take l K (by omega)
  have hne : l.drop (skip l) ≠ [] := fun h => hk (by rw [← hr]; exact (first_end (by rw [hr]; exact he)).2 h)
  obtain ⟨c, t, hd⟩ : ∃ c t, l.drop (skip l) = c :: t := by
    cases hd : l.drop (skip l) with
    | nil => exact absurd hd hne
    | cons c r => exact ⟨c, r, rfl⟩
  have hf : firstP ((l.take K).drop (skip (l.take K))) = r := by
    rw [hs, List.drop_take, hd, first_take (by rw [← hd, hr]; exact he) (K - skip l) (by rw [← hd, hr]; omega), ← hd, hr]
  obtain ⟨g, _, _⟩ := goX_step p (l.take K) r hf he hk
  rw [g, hs, List.drop_take]
theorem end_take (p : Nat) (l : Bs) : goX p (l.take (skip l)) = ⟨[⟨0, [], 0, p + skip l⟩], 0, 0⟩ := by
  have hs := skip_take l (skip l) (Nat.le_refl _)
  have hd : (l.take (skip l)).drop (skip (l.take (skip l))) = [] := by rw [hs]; exact List.drop_of_length_le (by rw [List.length_take]; omega)
  rw [goX_end p _ (by rw [hd]; rfl) (by rw [hd]; rfl), hs]
/-- What is read up to a place. -/
def UpTo (p : Nat) (l : Bs) (ts : List Tok) (i : Nat) (q : Nat) : Prop := q ≤ l.length ∧ goX p (l.take q) = ⟨ts.take i ++ [⟨0, [], 0, p + q⟩], 0, 0⟩
theorem ahead_bad : ∀ (n p : Nat) (l : Bs), l.length ≤ n → (goX p l).e ≠ 0 → ∃ q d, (goX p l).ts = [] ∧ (goX p l).p = p + q ∧ q < l.length ∧ goX p (l.take q) = ⟨d ++ [⟨0, [], 0, p + q⟩], 0, 0⟩ := by
  intro n
  induction n with
  | zero =>
    intro p l hl h
    have : l = [] := List.eq_nil_of_length_eq_zero (by omega)
    subst this
    rw [goX_end p [] rfl rfl] at h
    simp at h
  | succ n ih =>
    intro p l hl h
    obtain ⟨r, hr⟩ : ∃ r, firstP (l.drop (skip l)) = r := ⟨_, rfl⟩
    have hs := skip_le l
    by_cases he : r.e = 0
    · by_cases hk : r.k = 0
      · rw [goX_end p l (by rw [hr]; exact he) (by rw [hr]; exact hk)] at h
        simp at h
      · obtain ⟨g, g2, g3⟩ := goX_step p l r hr he hk
        have h' : (goX (p + skip l + r.len) (l.drop (skip l + r.len))).e ≠ 0 := by
          rw [g] at h; unfold Al.pre at h; split at h
          · exact absurd (by assumption) h
          · exact h
        obtain ⟨q, d, q1, q2, q3, q4⟩ := ih (p + skip l + r.len) (l.drop (skip l + r.len)) (by rw [List.length_drop]; omega) h'
        rw [List.length_drop] at q3
        refine ⟨skip l + r.len + q, [⟨r.k, r.t, r.n, p + skip l⟩] ++ d, ?_, ?_, by omega, ?_⟩
        · rw [g]; unfold Al.pre; rw [if_neg h']; exact q1
        · rw [g]; unfold Al.pre; rw [if_neg h', q2]; omega
        · rw [step_take p l r hr he hk _ (by omega), show skip l + r.len + q - (skip l + r.len) = q by omega, q4]
          unfold Al.pre
          simp
          omega
    · rw [goX_bad p l r.e (by rw [hr]) he]
      refine ⟨skip l, [], rfl, rfl, ?_, by rw [end_take]; rfl⟩
      rcases Nat.lt_or_ge (skip l) l.length with h1 | h1
      · exact h1
      · rw [List.drop_of_length_le h1] at hr
        rw [← hr] at he
        exact absurd rfl he
structure Good (p : Nat) (l : Bs) (A : Al) : Prop where
  zero : A.p = 0
  last : ∃ d, A.ts = d ++ [⟨0, [], 0, p + l.length⟩]
  upto : ∀ i (h : i < A.ts.length), ∃ q, A.ts[i].p = p + q ∧ UpTo p l A.ts i q
  rise : ∀ i (h : i + 1 < A.ts.length), A.ts[i].p < A.ts[i + 1].p
theorem ahead_good : ∀ (n p : Nat) (l : Bs), l.length ≤ n → (goX p l).e = 0 → Good p l (goX p l) := by
  intro n
  induction n with
  | zero =>
    intro p l hl h
    have : l = [] := List.eq_nil_of_length_eq_zero (by omega)
    subst this
    rw [goX_end p [] rfl rfl]
    refine ⟨rfl, ⟨[], rfl⟩, fun i hi => ?_, fun i hi => by simp at hi⟩
    obtain rfl : i = 0 := by simpa using hi
    exact ⟨0, rfl, by simp, by simp [goX_end p [] rfl rfl, skip_nil]⟩
  | succ n ih =>
    intro p l hl h
    obtain ⟨r, hr⟩ : ∃ r, firstP (l.drop (skip l)) = r := ⟨_, rfl⟩
    have hs := skip_le l
    by_cases he : r.e = 0
    · by_cases hk : r.k = 0
      · have hnil : l.drop (skip l) = [] := (first_end (by rw [hr]; exact he)).1 (by rw [hr]; exact hk)
        have hsl : skip l = l.length := by have := congrArg List.length hnil; rw [List.length_drop] at this; simp at this; omega
        rw [goX_end p l (by rw [hr]; exact he) (by rw [hr]; exact hk)]
        refine ⟨rfl, ⟨[], by rw [hsl]; rfl⟩, fun i hi => ?_, fun i hi => by simp at hi⟩
        obtain rfl : i = 0 := by simpa using hi
        exact ⟨skip l, rfl, hs, end_take p l⟩
      · obtain ⟨g, g2, g3⟩ := goX_step p l r hr he hk
        have h' : (goX (p + skip l + r.len) (l.drop (skip l + r.len))).e = 0 := by
          rw [g] at h; unfold Al.pre at h; split at h
          · assumption
          · exact h
        obtain ⟨q1, ⟨d, q2⟩, q3, q4⟩ := ih (p + skip l + r.len) (l.drop (skip l + r.len)) (by rw [List.length_drop]; omega) h'
        have g' : goX p l = ⟨⟨r.k, r.t, r.n, p + skip l⟩ :: (goX (p + skip l + r.len) (l.drop (skip l + r.len))).ts, 0, 0⟩ := by
          rw [g]; unfold Al.pre; rw [if_pos h', q1, h']; rfl
        rw [g']
        refine ⟨rfl, ⟨⟨r.k, r.t, r.n, p + skip l⟩ :: d, ?_⟩, fun i hi => ?_, fun i hi => ?_⟩
        · rw [q2, List.length_drop]; simp; omega
        · cases i with
          | zero => exact ⟨skip l, rfl, hs, by rw [end_take]; rfl⟩
          | succ i =>
            obtain ⟨q, u1, u2, u3⟩ := q3 i (by simpa using hi)
            rw [List.length_drop] at u2
            refine ⟨skip l + r.len + q, ?_, by omega, ?_⟩
            · show _ = _
              simp only [List.getElem_cons_succ]
              rw [u1]; omega
            · rw [step_take p l r hr he hk _ (by omega), show skip l + r.len + q - (skip l + r.len) = q by omega, u3]
              unfold Al.pre
              simp
              omega
        · cases i with
          | zero =>
            obtain ⟨q, u1, _⟩ := q3 0 (by simpa using hi)
            simp only [List.getElem_cons_zero, List.getElem_cons_succ]
            rw [u1]; omega
          | succ i =>
            have := q4 i (by simpa using hi)
            simpa using this
    · rw [goX_bad p l r.e (by rw [hr]) he] at h
      exact absurd h he
end Go.Proofs.YtllhcjmabhempaaDoor

namespace Go.Proofs.YtllhcjmabhempaaDoor
set_option linter.unusedVariables false
set_option linter.unusedSimpArgs false
open Go.RowKit

theorem opens_app {l : Bs} (v : Bs) (hl : l ≠ []) (h : opens l = false) : opens (l ++ 32 :: v) = false := by
  match l, hl with
  | [a], _ => simp [opens]
  | a :: b :: r, _ => simpa [opens] using h
theorem opens_app' {l : Bs} (v : Bs) (h : opens l = true) : opens (l ++ v) = true := by
  match l with
  | [] => simp [opens] at h
  | [a] => simp [opens] at h
  | a :: b :: r => simpa [opens] using h
theorem tw_app (v : Bs) : ∀ l : Bs, wordL (l ++ 32 :: v) = wordL l
  | [] => by
    have : wch 32 = false := by decide
    simp [wordL, this]
  | c :: r => by
    have ih := tw_app v r
    unfold wordL at ih ⊢
    cases h : wch c
    · simp [h]
    · simp [h, ih]
theorem quoP_app (v : Bs) : ∀ (k : Nat) (l : Bs) (n : Nat), quoP k l = some n → quoP k (l ++ v) = some n
  | _, [], _, h => by simp [quoP] at h
  | k, c :: r, n, h => by
    rw [quoP] at h
    rw [List.cons_append, quoP]
    by_cases h1 : c = 34
    · rw [if_pos h1] at h ⊢; exact h
    · rw [if_neg h1] at h ⊢
      by_cases h2 : c.toNat < 32 ∨ 126 < c.toNat ∨ k = 200
      · rw [if_pos h2] at h; cases h
      · rw [if_neg h2] at h ⊢; exact quoP_app v _ _ _ h
theorem signP_app (c : UInt8) (t v : Bs) : signP (c :: t ++ 32 :: v) = signP (c :: t) := by
  cases t with
  | nil => simp [signP, signsL, List.find?, List.isPrefixOf]
  | cons b r => simp [signP, signsL, List.find?, List.isPrefixOf]
theorem first_blank {c : UInt8} {t : Bs} (v : Bs) (h : (firstP (c :: t)).e = 0) : firstP (c :: t ++ 32 :: v) = firstP (c :: t) := by
  have ho : opens (c :: t) = false := by
    cases ho : opens (c :: t)
    · rfl
    · simp [firstP, firstC, ho, Rd.bad] at h
  have ho2 := opens_app v (by simp) ho
  rw [List.cons_append] at ho2 ⊢
  have hs := signP_app c t v
  have hw := tw_app v (c :: t)
  rw [List.cons_append] at hs hw
  simp only [firstP, firstC] at h ⊢
  rw [ho2, ho, hw, hs]
  rw [ho] at h
  simp only [Bool.false_eq_true, if_false] at h ⊢
  split
  · rfl
  · split
    · rfl
    · split
      · rename_i h1 h2 h3
        rw [if_neg h1, if_neg h2, if_pos h3] at h
        unfold quotedP at h ⊢
        simp only [List.tail_cons] at h ⊢
        cases hq : quoP 0 t with
        | none => rw [hq] at h; simp [quoT, Rd.bad] at h
        | some k =>
          rw [quoP_app (32 :: v) _ _ _ hq]
          have := (quoP_le _ _ _ hq).2
          simp only [quoT]
          rw [List.take_append_of_le_length (by omega)]
      · rfl
theorem remN_app {l : Bs} (w : Bs) (h : remN l ≠ 0) : remN (l ++ w) = remN l := by
  rcases remN_cases l with h0 | ⟨ho, hr⟩
  · exact absurd h0 h
  · have hr2 : remP 0 (l ++ w) = some (remN l) := remP_untake 0 (l ++ w) _ l.length (by rw [List.take_left]; exact hr)
    show (if opens (l ++ w) then (remP 0 (l ++ w)).getD 0 else 0) = _
    rw [opens_app' w ho, hr2]
    simp
theorem skip_app (v : Bs) : ∀ u : Bs, (∀ c t, u.drop (skip u) = c :: t → opens (c :: t) = false) → skip (u ++ 32 :: v) = if skip u = u.length then u.length + skip (32 :: v) else skip u := by
  intro u
  refine skip_ind (P := fun u => (∀ c t, u.drop (skip u) = c :: t → opens (c :: t) = false) → skip (u ++ 32 :: v) = if skip u = u.length then u.length + skip (32 :: v) else skip u) ?_ ?_ ?_ ?_ u.length u (Nat.le_refl _)
  · intro _; simp [skip_nil]
  · intro c r hc ih h
    rw [List.cons_append, skip_blk hc, skip_blk hc]
    have := ih (fun c2 t2 h2 => h c2 t2 (by rw [skip_blk hc, Nat.add_comm, List.drop_succ_cons]; exact h2))
    rw [this]
    by_cases hs : skip r = r.length
    · rw [if_pos hs, if_pos (by rw [hs, List.length_cons]; omega), List.length_cons]; omega
    · rw [if_neg hs, if_neg (by rw [List.length_cons]; omega)]
  · intro l hn ih h
    have hle := remN_le l
    rw [skip_rem (l := l ++ 32 :: v) (by rw [remN_app _ hn]; exact hn), remN_app _ hn, skip_rem hn, List.drop_append_of_le_length hle]
    have := ih (fun c2 t2 h2 => h c2 t2 (by rw [skip_rem hn, ← List.drop_drop]; exact h2))
    rw [this, List.length_drop]
    by_cases hs : skip (l.drop (remN l)) = l.length - remN l
    · rw [if_pos hs, if_pos (by omega)]; omega
    · rw [if_neg hs, if_neg (by omega)]
  · intro c r hc hn h
    have ho := h c r (by rw [skip_stop hc hn]; rfl)
    have ho2 := opens_app v (by simp) ho
    rw [skip_stop hc hn, List.cons_append, skip_stop hc (by rw [← List.cons_append]; unfold remN; rw [ho2]; rfl), if_neg (by simp)]
theorem goX_same (p q : Nat) (a b : Bs) (hp : p + skip a = q + skip b) (hd : a.drop (skip a) = b.drop (skip b)) : goX p a = goX q b := by
  obtain ⟨r, hr⟩ : ∃ r, firstP (b.drop (skip b)) = r := ⟨_, rfl⟩
  have hr2 : firstP (a.drop (skip a)) = r := by rw [hd]; exact hr
  by_cases he : r.e = 0
  · by_cases hk : r.k = 0
    · rw [goX_end p a (by rw [hr2]; exact he) (by rw [hr2]; exact hk), goX_end q b (by rw [hr]; exact he) (by rw [hr]; exact hk), hp]
    · rw [(goX_step p a r hr2 he hk).1, (goX_step q b r hr he hk).1, hp, ← List.drop_drop, ← List.drop_drop, hd]
  · rw [goX_bad p a r.e (by rw [hr2]) he, goX_bad q b r.e (by rw [hr]) he, hp]
theorem goX_ne : ∀ (n p : Nat) (l : Bs), l.length ≤ n → (goX p l).e = 0 → (goX p l).ts ≠ [] := by
  intro n p l hl h
  obtain ⟨d, hd⟩ := (ahead_good n p l hl h).last
  rw [hd]; simp
/-- What stands behind a blank is read as if it stood alone. -/
theorem goX_app (v : Bs) : ∀ (n p : Nat) (u : Bs), u.length ≤ n → (goX p u).e = 0 → goX p (u ++ 32 :: v) = (goX (p + u.length) (32 :: v)).pre (goX p u).ts.dropLast := by
  intro n
  induction n with
  | zero =>
    intro p u hl h
    have : u = [] := List.eq_nil_of_length_eq_zero (by omega)
    subst this
    rw [goX_end p [] rfl rfl]
    exact (pre_nil _).symm
  | succ n ih =>
    intro p u hl h
    obtain ⟨r, hr⟩ : ∃ r, firstP (u.drop (skip u)) = r := ⟨_, rfl⟩
    have hs := skip_le u
    by_cases he : r.e = 0
    · have hop : ∀ c t, u.drop (skip u) = c :: t → opens (c :: t) = false := fun c t hc => by
        cases ho : opens (c :: t)
        · rfl
        · rw [hc] at hr; rw [← hr] at he; simp [firstP, firstC, ho, Rd.bad] at he
      have sk := skip_app v u hop
      by_cases hk : r.k = 0
      · have hnil : u.drop (skip u) = [] := (first_end (by rw [hr]; exact he)).1 (by rw [hr]; exact hk)
        have hsl : skip u = u.length := by have := congrArg List.length hnil; rw [List.length_drop] at this; simp at this; omega
        rw [if_pos hsl] at sk
        rw [goX_end p u (by rw [hr]; exact he) (by rw [hr]; exact hk)]
        show _ = Al.pre [] _
        rw [pre_nil]
        refine goX_same _ _ _ _ (by rw [sk]; omega) ?_
        rw [sk, ← List.drop_drop, List.drop_left]
      · have hne : u.drop (skip u) ≠ [] := fun e => hk (by rw [← hr]; exact (first_end (by rw [hr]; exact he)).2 e)
        have hsl : skip u ≠ u.length := fun e => hne (by rw [e, List.drop_length])
        rw [if_neg hsl] at sk
        obtain ⟨c, t, hct⟩ : ∃ c t, u.drop (skip u) = c :: t := by
          cases hd : u.drop (skip u) with
          | nil => exact absurd hd hne
          | cons c t => exact ⟨c, t, rfl⟩
        have hr2 : firstP ((u ++ 32 :: v).drop (skip (u ++ 32 :: v))) = r := by
          rw [sk, List.drop_append_of_le_length hs, hct, first_blank v (by rw [← hct, hr]; exact he), ← hct, hr]
        obtain ⟨g1, g2, g3⟩ := goX_step p u r hr he hk
        obtain ⟨k1, k2, k3⟩ := goX_step p (u ++ 32 :: v) r hr2 he hk
        have e1 : (goX (p + skip u + r.len) (u.drop (skip u + r.len))).e = 0 := by
          rw [g1] at h
          unfold Al.pre at h
          split at h
          · assumption
          · exact h
        have I := ih (p + skip u + r.len) (u.drop (skip u + r.len)) (by rw [List.length_drop]; omega) e1
        have hn2 := goX_ne _ _ _ (Nat.le_refl _) e1
        rw [k1, sk, List.drop_append_of_le_length g3, I, pre_pre, g1]
        have e2 : (Al.pre [⟨r.k, r.t, r.n, p + skip u⟩] (goX (p + skip u + r.len) (u.drop (skip u + r.len)))).ts = ⟨r.k, r.t, r.n, p + skip u⟩ :: (goX (p + skip u + r.len) (u.drop (skip u + r.len))).ts := by
          unfold Al.pre; rw [if_pos e1]; rfl
        rw [e2, List.dropLast_cons_of_ne_nil hn2, List.length_drop]
        have e3 : p + skip u + r.len + (u.length - (skip u + r.len)) = p + u.length := by omega
        rw [e3]
        rfl
    · rw [goX_bad p u r.e (by rw [hr]) he] at h
      exact absurd h he
/-- A text up to a token, with a blank and more behind: the same tokens up to there. -/
theorem cut_read (l : Bs) (rest : Bs) (h : (goX 0 l).e = 0) (i : Nat) (hi : i < (goX 0 l).ts.length) (ht : (goX 0 (l.take (goX 0 l).ts[i].p ++ 32 :: rest)).e = 0) :
    (goX 0 l).ts[i].p ≤ l.length ∧ ∃ B, (goX 0 (l.take (goX 0 l).ts[i].p ++ 32 :: rest)).ts = (goX 0 l).ts.take i ++ B ∧ B ≠ [] := by
  have G := ahead_good l.length 0 l (Nat.le_refl _) h
  obtain ⟨q, hq, hql, hgo⟩ := G.upto i hi
  rw [Nat.zero_add] at hq
  rw [hq] at ht ⊢
  have ht' := ht
  rw [goX_app rest l.length 0 (l.take q) (by rw [List.length_take]; omega) (by rw [hgo])] at ht ⊢
  rw [hgo]
  rw [hgo] at ht
  refine ⟨hql, ?_⟩
  simp only [List.dropLast_concat] at ht ⊢
  unfold Al.pre at ht ⊢
  by_cases e1 : (goX (0 + (l.take q).length) (32 :: rest)).e = 0
  · rw [if_pos e1]
    exact ⟨_, rfl, goX_ne _ _ _ (Nat.le_refl _) e1⟩
  · rw [if_neg e1] at ht; exact absurd ht e1
end Go.Proofs.YtllhcjmabhempaaDoor

namespace Go.Proofs.YtllhcjmabhempaaDoor
set_option linter.unusedVariables false
set_option linter.unusedSimpArgs false

/-- How a reader goes: it answers, refuses the token here, has no fuel left, looks at the token here, passes it if a test holds, or asks how many tokens there are. -/
inductive Pg (α : Type) : Type
  | ret (a : α)
  | fail (e : Int)
  | out
  | look (k : Tok → Pg α)
  | eat (c : Tok → Bool) (X : Tok → Pg α) (Y : Pg α)
  | len (k : Nat → Pg α)
def Pg.bind {α β : Type} : Pg α → (α → Pg β) → Pg β
  | .ret a, f => f a
  | .fail e, _ => .fail e
  | .out, _ => .out
  | .look k, f => .look fun x => (k x).bind f
  | .eat c X Y, f => .eat c (fun x => (X x).bind f) (Y.bind f)
  | .len k, f => .len fun n => (k n).bind f
def exec {α : Type} : Pg α → List Tok → Rs α
  | .ret a, t => .ok a t
  | .fail e, t => .bad (hd t).p e
  | .out, _ => .bad 0 0
  | .look k, t => exec (k (hd t)) t
  | .eat c X Y, t => if c (hd t) then exec (X (hd t)) t.tail else exec Y t
  | .len k, t => exec (k t.length) t
theorem exec_bind {α β : Type} (p : Pg α) (f : α → Pg β) : ∀ t, exec (p.bind f) t = (exec p t).bind fun a r => exec (f a) r := by
  induction p with
  | ret a => intro t; rfl
  | fail e => intro t; rfl
  | out => intro t; rfl
  | look k ih => intro t; exact ih (hd t) t
  | eat c X Y h1 h2 =>
    intro t
    simp only [Pg.bind, exec]
    split
    · exact h1 _ _
    · exact h2 _
  | len k ih => intro t; exact ih t.length t
theorem exec_ite {α : Type} {c : Prop} [Decidable c] (X Y : Pg α) (t : List Tok) : exec (if c then X else Y) t = if c then exec X t else exec Y t := by split <;> rfl
def wdT (x : Tok) : Bs := if x.k = 2 ∨ x.k = 6 then x.t else []
theorem wd_T (t : List Tok) : wd t = wdT (hd t) := rfl
def isW (s : Bs) (x : Tok) : Bool := decide (wdT x = s)
def eatW {α : Type} (s : Bs) (X : Tok → Pg α) (Y : Pg α) : Pg α := .eat (isW s) X Y
theorem exec_eatW {α : Type} (s : Bs) (X : Tok → Pg α) (Y : Pg α) (t : List Tok) : exec (eatW s X Y) t = if wd t = s then exec (X (hd t)) t.tail else exec Y t := by
  by_cases h : wdT (hd t) = s
  · rw [if_pos (show wd t = s from h)]; simp [eatW, exec, isW, h]
  · rw [if_neg (show ¬ wd t = s from h)]; simp [eatW, exec, isW, h]
def eatK {α : Type} (k : Int) (X : Tok → Pg α) (Y : Pg α) : Pg α := .eat (fun x => decide (x.k = k)) X Y
theorem exec_eatK {α : Type} (k : Int) (X : Tok → Pg α) (Y : Pg α) (t : List Tok) : exec (eatK k X Y) t = if (hd t).k = k then exec (X (hd t)) t.tail else exec Y t := by
  simp only [eatK, exec, decide_eq_true_eq]
def eatR {α : Type} (k : Int) (X : Tok → Pg α) (Y : Pg α) : Pg α := .eat (fun x => decide (rankP (wdT x) = k)) X Y
theorem exec_eatR {α : Type} (k : Int) (X : Tok → Pg α) (Y : Pg α) (t : List Tok) : exec (eatR k X Y) t = if rankP (wd t) = k then exec (X (hd t)) t.tail else exec Y t := by
  by_cases h : rankP (wdT (hd t)) = k
  · rw [if_pos (show rankP (wd t) = k from h)]; simp [eatR, exec, h]
  · rw [if_neg (show ¬ rankP (wd t) = k from h)]; simp [eatR, exec, h]
def mustP (s : Bs) : Pg Tok := eatW s .ret (.fail 90)
theorem exec_must (s : Bs) (t : List Tok) : exec (mustP s) t = mustR s t := by
  unfold mustP mustR; rw [exec_eatW]; rfl
def nameQ : Pg Tok := eatK 1 .ret (.fail 90)
theorem exec_name (t : List Tok) : exec nameQ t = nameR t := by
  unfold nameQ nameR; rw [exec_eatK]; rfl
/-- What opens with a word. -/
def opnP {α : Type} (s : Bs) (o : Nat) (X : Tok → Pg α) (Y : Pg α) : Pg α := if o = 24 then .look fun x => if wdT x = s then .fail 91 else Y else eatW s X Y
theorem exec_opn {α : Type} (s : Bs) (o : Nat) (X : Tok → Pg α) (Y : Pg α) (t : List Tok) : exec (opnP s o X Y) t = if wd t = s then (beginR o t).bind fun x r => exec (X x) r else exec Y t := by
  unfold opnP beginR
  by_cases ho : o = 24
  · rw [if_pos ho, if_pos ho]
    by_cases h : wdT (hd t) = s
    · rw [if_pos (show wd t = s from h)]; simp [exec, h, Rs.bind_bad]
    · rw [if_neg (show ¬ wd t = s from h)]; simp [exec, h]
  · rw [if_neg ho, if_neg ho, exec_eatW]
    simp only [Rs.bind_ok]
def seeW {α : Type} (s : Bs) (X Y : Pg α) : Pg α := .look fun x => if wdT x = s then X else Y
theorem exec_seeW {α : Type} (s : Bs) (X Y : Pg α) (t : List Tok) : exec (seeW s X Y) t = if wd t = s then exec X t else exec Y t := by
  by_cases h : wdT (hd t) = s
  · rw [if_pos (show wd t = s from h)]; simp [seeW, exec, h]
  · rw [if_neg (show ¬ wd t = s from h)]; simp [seeW, exec, h]
def seeK {α : Type} (k : Int) (X Y : Pg α) : Pg α := .look fun x => if x.k = k then X else Y
theorem exec_seeK {α : Type} (k : Int) (X Y : Pg α) (t : List Tok) : exec (seeK k X Y) t = if (hd t).k = k then exec X t else exec Y t := by
  simp only [seeK, exec, exec_ite]
theorem exec_ret {α : Type} (a : α) (t : List Tok) : exec (.ret a) t = .ok a t := rfl
theorem exec_fail {α : Type} (e : Int) (t : List Tok) : exec (.fail e : Pg α) t = .bad (hd t).p e := rfl
theorem exec_out {α : Type} (t : List Tok) : exec (.out : Pg α) t = .bad 0 0 := rfl
theorem exec_len {α : Type} (k : Nat → Pg α) (t : List Tok) : exec (.len k) t = exec (k t.length) t := rfl
theorem exec_look {α : Type} (k : Tok → Pg α) (t : List Tok) : exec (.look k) t = exec (k (hd t)) t := rfl
/-- The expressions' readers. -/
def runP : Nat → NT → Nat → Pg Nd
  | 0, _, _ => .out
  | f + 1, .expr, o => (runP f .simple o).bind fun l => eatR 1 (fun x => (runP f .simple o).bind fun y => .ret (binN x l y)) (.ret l)
  | f + 1, .simple, o => (runP f .first o).bind fun l => runP f (.simpleL l) o
  | f + 1, .simpleL l, o => eatR 2 (fun x => (runP f .term o).bind fun y => runP f (.simpleL (binN x l y)) o) (.ret l)
  | f + 1, .first, o => opnP [43] o (fun x => (runP f .term (o + 1)).bind fun y => .ret (unN x y)) (opnP [45] o (fun x => (runP f .term (o + 1)).bind fun y => .ret (unN x y)) (runP f .term o))
  | f + 1, .term, o => (runP f .factor o).bind fun l => runP f (.termL l) o
  | f + 1, .termL l, o => eatR 3 (fun x => (runP f .factor o).bind fun y => runP f (.termL (binN x l y)) o) (.ret l)
  | f + 1, .factor, o => seeK 1 (runP f .desig o) <| eatK 3 (fun x => .ret (.mk 24 [] x.n false [] x.p)) <| eatK 4 (fun x => .ret (.mk 25 [] x.n false [] x.p)) <| eatK 5 (fun x => .ret (.mk 26 x.t 0 false [] x.p)) <|
    eatW [78, 73, 76] (fun x => .ret (.mk 27 [] 0 false [] x.p)) <| eatW [84, 82, 85, 69] (fun x => .ret (.mk 28 [] 1 false [] x.p)) <| eatW [70, 65, 76, 83, 69] (fun x => .ret (.mk 28 [] 0 false [] x.p)) <|
    opnP [126] o (fun x => (runP f .factor (o + 1)).bind fun y => .ret (unN x y)) <|
    opnP [123] o (fun x => (seeW [125] (.ret (lst [])) (runP f (.row [44] .elem []) (o + 1))).bind fun l => (mustP [125]).bind fun _ => .ret (.mk 29 [] 0 false l.kids x.p)) <|
    opnP [40] o (fun x => (runP f .expr (o + 1)).bind fun y => (mustP [41]).bind fun _ => .ret y) (.fail 90)
  | f + 1, .elem, o => (runP f .expr o).bind fun x => .look fun z => eatW [46, 46] (fun _ => (runP f .expr o).bind fun y => .ret (.mk 30 [] 0 false [x, y] z.p)) (.ret x)
  | f + 1, .desig, o => nameQ.bind fun x => runP f (.desigL (.mk 31 x.t 0 false [] x.p)) o
  | f + 1, .desigL l, o => .look fun z => eatW [46] (fun _ => nameQ.bind fun y => runP f (.desigL (.mk 32 y.t 0 false [l] z.p)) o) <|
    opnP [91] o (fun x => (runP f (.row [44] .expr []) (o + 1)).bind fun y => (mustP [93]).bind fun _ => runP f (.desigL (idxN x.p l y.kids)) o) <|
    eatW [94] (fun _ => runP f (.desigL (.mk 34 [] 0 false [l] z.p)) o) <|
    opnP [40] o (fun x => (seeW [41] (.ret (lst [])) (runP f (.row [44] .expr []) (o + 1))).bind fun y => (mustP [41]).bind fun _ => runP f (.desigL (.mk 35 [] 0 false (l :: y.kids) x.p)) o) (.ret l)
  | f + 1, .row s p acc, o => (runP f p o).bind fun x => eatW s (fun _ => runP f (.row s p (acc ++ [x])) o) (.ret (lst (acc ++ [x])))
theorem exec_run : ∀ (f : Nat) (nt : NT) (o : Nat) (t : List Tok), exec (runP f nt o) t = run f nt o t := by
  intro f
  induction f with
  | zero => intro nt o t; cases nt <;> rfl
  | succ f ih =>
    intro nt o t
    cases nt <;> simp only [runP, run, exec_bind, exec_eatR, exec_eatW, exec_eatK, exec_opn, exec_seeK, exec_seeW, exec_must, exec_name, exec_ret, exec_fail, exec_look, ih]
    case first =>
      by_cases h : wd t = [43]
      · simp [h]
      · by_cases h2 : wd t = [45]
        · simp [h2]
        · simp [h, h2]
def exprQ (o : Nat) : Pg Nd := .len fun n => runP (n * 40 + 20) .expr o
def desigQ (o : Nat) : Pg Nd := .len fun n => runP (n * 40 + 10) .desig o
theorem exec_expr (o : Nat) (t : List Tok) : exec (exprQ o) t = exprR o t := by unfold exprQ exprR; rw [exec_len, exec_run]
theorem exec_desig (o : Nat) (t : List Tok) : exec (desigQ o) t = desigR o t := by unfold desigQ desigR; rw [exec_len, exec_run]
def namedQ (k : Int) : Pg Nd := nameQ.bind fun x => .ret (.mk k x.t 0 false [] x.p)
theorem exec_named (k : Int) (t : List Tok) : exec (namedQ k) t = namedR k t := by unfold namedQ namedR; simp only [exec_bind, exec_name, exec_ret]
def markedQ (k : Int) : Pg Nd := nameQ.bind fun x => eatW [42] (fun _ => .ret (.mk k x.t 0 true [] x.p)) (.ret (.mk k x.t 0 false [] x.p))
theorem exec_marked (k : Int) (t : List Tok) : exec (markedQ k) t = markedR k t := by unfold markedQ markedR; simp only [exec_bind, exec_name, exec_ret, exec_eatW]
def rowQ (s : Bs) (part : Pg Nd) : Nat → List Nd → Pg Nd
  | 0, _ => .out
  | f + 1, acc => part.bind fun x => eatW s (fun _ => rowQ s part f (acc ++ [x])) (.ret (lst (acc ++ [x])))
theorem exec_row (s : Bs) (part : Pg Nd) (R : List Tok → Rs Nd) (h : ∀ t, exec part t = R t) : ∀ (f : Nat) (acc : List Nd) (t : List Tok), exec (rowQ s part f acc) t = rowR s R f acc t := by
  intro f
  induction f with
  | zero => intro acc t; rfl
  | succ f ih => intro acc t; simp only [rowQ, rowR, exec_bind, exec_eatW, exec_ret, h, ih]
def manyQ (part : Pg Nd) : Nat → List Nd → Pg Nd
  | 0, _ => .out
  | f + 1, acc => seeK 1 (part.bind fun x => (mustP [59]).bind fun _ => manyQ part f (acc ++ [x])) (.ret (lst acc))
theorem exec_many (part : Pg Nd) (R : List Tok → Rs Nd) (h : ∀ t, exec part t = R t) : ∀ (f : Nat) (acc : List Nd) (t : List Tok), exec (manyQ part f acc) t = manyR R f acc t := by
  intro f
  induction f with
  | zero => intro acc t; rfl
  | succ f ih => intro acc t; simp only [manyQ, manyR, exec_bind, exec_seeK, exec_must, exec_ret, h, ih]
def sectQ (key : Bs) (part : Pg Nd) : Pg Nd := .len fun n => eatW key (fun _ => manyQ part (n + 1) []) (.ret (lst []))
theorem exec_sect (key : Bs) (part : Pg Nd) (R : List Tok → Rs Nd) (h : ∀ t, exec part t = R t) (t : List Tok) : exec (sectQ key part) t = sectR key R t := by
  unfold sectQ sectR; simp only [exec_len, exec_eatW, exec_many part R h, exec_ret]
/-- Statements' readers. -/
def stQ : Nat → NS → Nat → Pg Nd
  | 0, _, _ => .out
  | f + 1, .block acc, o =>
    .look fun z => if begins [z] then (stQ f .stat o).bind fun x => eatW [59] (fun _ => stQ f (.block (acc ++ [x])) o) (.ret (lst (acc ++ [x])))
    else eatW [59] (fun _ => stQ f (.block acc) o) (.ret (lst acc))
  | f + 1, .br s acc, o => (exprQ o).bind fun c => (mustP s).bind fun _ => .look fun z => (stQ f (.block []) o).bind fun l =>
    eatW [69, 76, 83, 73, 70] (fun _ => stQ f (.br s (acc ++ [c, blkN z.p l])) o) (.ret (lst (acc ++ [c, blkN z.p l])))
  | f + 1, .stat, o =>
    .look fun z => seeK 1 ((desigQ o).bind fun d => eatW [58, 61] (fun _ => (exprQ o).bind fun y => .ret (.mk 17 [] 0 false [d, y] z.p)) (.ret (.mk 18 [] 0 false [d] z.p))) <|
    opnP [73, 70] o (fun x => (stQ f (.br [84, 72, 69, 78] []) (o + 1)).bind fun l => (eatW [69, 76, 83, 69] (fun _ => .look fun z => (stQ f (.block []) (o + 1)).bind fun y => .ret (lst (l.kids ++ [blkN z.p y]))) (.ret l)).bind fun l => (mustP [69, 78, 68]).bind fun _ => .ret (.mk 19 [] 0 false l.kids x.p)) <|
    opnP [87, 72, 73, 76, 69] o (fun x => (stQ f (.br [68, 79] []) (o + 1)).bind fun l => (mustP [69, 78, 68]).bind fun _ => .ret (.mk 20 [] 0 false l.kids x.p)) <|
    opnP [82, 69, 80, 69, 65, 84] o (fun x => .look fun z => (stQ f (.block []) (o + 1)).bind fun l => (mustP [85, 78, 84, 73, 76]).bind fun _ => (exprQ (o + 1)).bind fun y => .ret (.mk 21 [] 0 false [blkN z.p l, y] x.p)) <|
    opnP [70, 79, 82] o (fun x => nameQ.bind fun z => (mustP [58, 61]).bind fun _ => (exprQ (o + 1)).bind fun a => (mustP [84, 79]).bind fun _ => (exprQ (o + 1)).bind fun c =>
      (eatW [66, 89] (fun _ => (exprQ (o + 1)).bind fun d => .ret (lst [a, c, d])) (.ret (lst [a, c]))).bind fun l => (mustP [68, 79]).bind fun _ => .look fun u =>
      (stQ f (.block []) (o + 1)).bind fun y => (mustP [69, 78, 68]).bind fun _ => .ret (.mk 22 z.t 0 false (l.kids ++ [blkN u.p y]) x.p)) (.fail 1)
theorem begins_hd (t : List Tok) : begins [hd t] ↔ begins t := by
  unfold begins wd
  cases t <;> exact Iff.rfl
theorem exec_st : ∀ (f : Nat) (ns : NS) (o : Nat) (t : List Tok), (ns = .stat → begins t) → exec (stQ f ns o) t = runS f ns o t := by
  intro f
  induction f with
  | zero => intro ns o t _; cases ns <;> rfl
  | succ f ih =>
    intro ns o t hb
    have ihb := fun acc o t => ih (.block acc) o t (fun h => by cases h)
    have ihr := fun s acc o t => ih (.br s acc) o t (fun h => by cases h)
    cases ns with
    | block acc =>
      simp only [stQ, runS, exec_look, exec_ite, exec_bind, exec_eatW, exec_ret, ihb]
      by_cases h : begins t
      · rw [if_pos h, if_pos ((begins_hd t).2 h), ih .stat o t (fun _ => h)]
      · rw [if_neg h, if_neg (fun e => h ((begins_hd t).1 e))]
    | br s acc => simp only [stQ, runS, exec_look, exec_bind, exec_eatW, exec_ret, exec_must, exec_expr, ihb, ihr]
    | stat =>
      simp only [stQ, runS, exec_look, exec_bind, exec_eatW, exec_ret, exec_must, exec_expr, exec_desig, exec_seeK, exec_opn, exec_name, ihb, ihr, exec_fail]
      by_cases h1 : (hd t).k = 1
      · rw [if_pos h1, if_pos h1]
      rw [if_neg h1, if_neg h1]
      by_cases h2 : wd t = [73, 70]
      · rw [if_pos h2, if_pos h2]
      rw [if_neg h2, if_neg h2]
      by_cases h3 : wd t = [87, 72, 73, 76, 69]
      · rw [if_pos h3, if_pos h3]
      rw [if_neg h3, if_neg h3]
      by_cases h4 : wd t = [82, 69, 80, 69, 65, 84]
      · rw [if_pos h4, if_pos h4]
      rw [if_neg h4, if_neg h4]
      rw [if_pos]
      rcases hb rfl with h | h | h | h | h
      · exact absurd h h1
      · exact absurd h h2
      · exact absurd h h3
      · exact absurd h h4
      · exact h
def blockQ (o : Nat) : Pg Nd := .len fun n => .look fun z => (stQ (n * 4 + 4) (.block []) o).bind fun l => .ret (blkN z.p l)
theorem exec_block (o : Nat) (t : List Tok) : exec (blockQ o) t = blockR o t := by
  unfold blockQ blockR; simp only [exec_len, exec_look, exec_bind, exec_ret, exec_st _ (.block []) o t (fun h => by cases h)]
def typedQ (k : Int) (ident type : Pg Nd) : Pg Nd := .look fun z => .len fun n => (rowQ [44] ident (n + 1) []).bind fun l => (mustP [58]).bind fun _ => type.bind fun y => .ret (.mk k [] 0 false (l.kids ++ [y]) z.p)
theorem exec_typed (k : Int) (ident type : Pg Nd) (I T : List Tok → Rs Nd) (h1 : ∀ t, exec ident t = I t) (h2 : ∀ t, exec type t = T t) (t : List Tok) : exec (typedQ k ident type) t = typedR k I T t := by
  unfold typedQ typedR; simp only [exec_len, exec_look, exec_bind, exec_ret, exec_must, exec_row [44] ident I h1, h2]
/-- Types' readers. -/
def tyQ : Nat → NY → Nat → Pg Nd
  | 0, _, _ => .out
  | f + 1, .type, o =>
    .look fun z => seeW [65, 82, 82, 65, 89] (tyQ f (.arr z.p) o) <|
    opnP [82, 69, 67, 79, 82, 68] o (fun x => (eatW [40] (fun _ => nameQ.bind fun z => (mustP [41]).bind fun _ => .ret z) (.ret ⟨0, [], 0, 0⟩)).bind fun z =>
      (seeW [69, 78, 68] (.ret (lst [])) (.len fun n => rowQ [59] (typedQ 14 (namedQ 9) (tyQ f .type (o + 1))) (n + 1) [])).bind fun l => (mustP [69, 78, 68]).bind fun _ => .ret (.mk 13 z.t 0 false l.kids x.p)) <|
    eatW [80, 79, 73, 78, 84, 69, 82] (fun _ => (mustP [84, 79]).bind fun _ => (namedQ 10).bind fun y => .ret (.mk 15 [] 0 false [y] z.p)) <|
    namedQ 10
  | f + 1, .arr p, o => if o = 24 then .fail 91 else .eat (fun x => decide (x.k ≠ 0)) (fun _ => (exprQ (o + 1)).bind fun y =>
    (seeW [44] (tyQ f (.arr p) (o + 1)) ((mustP [79, 70]).bind fun _ => tyQ f .type (o + 1))).bind fun z => .ret (.mk 11 [] 0 false [y, z] p)) (.fail 1)
theorem exec_ty : ∀ (f : Nat) (ny : NY) (o : Nat) (t : List Tok), ((∃ p, ny = .arr p) → (hd t).k ≠ 0) → exec (tyQ f ny o) t = runY f ny o t := by
  intro f
  induction f with
  | zero => intro ny o t _; cases ny <;> rfl
  | succ f ih =>
    intro ny o t hb
    have iht := fun o t => ih .type o t (fun ⟨p, h⟩ => by cases h)
    cases ny with
    | type =>
      simp only [tyQ, runY, exec_look, exec_bind, exec_eatW, exec_ret, exec_must, exec_named, exec_seeW, exec_opn, exec_name, exec_len, exec_row [59] _ _ (exec_typed 14 _ _ _ _ (exec_named 9) (iht (o + 1)))]
      by_cases h : wd t = [65, 82, 82, 65, 89]
      · rw [if_pos h, if_pos h, ih (.arr _) o t (fun _ => wd_kind (by rw [h]; decide))]
      · rw [if_neg h, if_neg h]
    | arr p =>
      have hk := hb ⟨p, rfl⟩
      simp only [tyQ, runY]
      unfold beginR
      by_cases ho : o = 24
      · rw [if_pos ho, if_pos ho, Rs.bind_bad]; rfl
      · rw [if_neg ho, if_neg ho, Rs.bind_ok]
        simp only [exec, decide_eq_true_eq]
        rw [if_pos hk, exec_bind, exec_expr]
        congr 1; funext y s
        rw [exec_bind, exec_seeW, exec_bind, exec_must]
        simp only [iht, exec_ret]
        congr 1
        by_cases h : wd s = [44]
        · rw [if_pos h, if_pos h, ih (.arr p) (o + 1) s (fun _ => wd_kind (by rw [h]; decide))]
        · rw [if_neg h, if_neg h]
def typeQ (o : Nat) : Pg Nd := .len fun n => tyQ (n * 4 + 4) .type o
theorem exec_type (o : Nat) (t : List Tok) : exec (typeQ o) t = typeR o t := by unfold typeQ typeR; rw [exec_len, exec_ty _ .type o t (fun ⟨p, h⟩ => by cases h)]
def putK (n y : Nd) : Nd := match n with
  | .mk k x v f _ p => .mk k x v f [y] p
def constQ (o : Nat) : Pg Nd := (markedQ 3).bind fun n => (mustP [61]).bind fun _ => (exprQ o).bind fun y => .ret (putK n y)
theorem exec_const (o : Nat) (t : List Tok) : exec (constQ o) t = constR o t := by unfold constQ constR; simp only [exec_bind, exec_marked, exec_must, exec_expr, exec_ret]; congr 1; funext n r; cases n; rfl
def tnameQ (o : Nat) : Pg Nd := (namedQ 4).bind fun n => (mustP [61]).bind fun _ => (typeQ o).bind fun y => .ret (putK n y)
theorem exec_tname (o : Nat) (t : List Tok) : exec (tnameQ o) t = tnameR o t := by unfold tnameQ tnameR; simp only [exec_bind, exec_named, exec_must, exec_type, exec_ret]; congr 1; funext n r; cases n; rfl
def varsQ (o : Nat) : Pg Nd := typedQ 5 (markedQ 9) (typeQ o)
theorem exec_vars (o : Nat) (t : List Tok) : exec (varsQ o) t = varsR o t := exec_typed _ _ _ _ _ (exec_marked 9) (exec_type o) t
def ptypeQ : Pg Nd := .look fun z => eatW [65, 82, 82, 65, 89] (fun _ => (mustP [79, 70]).bind fun _ => (namedQ 10).bind fun y => .ret (.mk 12 [] 0 false [y] z.p)) (namedQ 10)
theorem exec_ptype (t : List Tok) : exec ptypeQ t = ptypeR t := by unfold ptypeQ ptypeR; simp only [exec_look, exec_eatW, exec_bind, exec_must, exec_named, exec_ret]
def paramQ : Pg Nd := .look fun z => (eatW [86, 65, 82] (fun _ => .ret true) (.ret false)).bind fun v => (typedQ 7 (namedQ 9) ptypeQ).bind fun n => .ret (.mk 7 [] 0 v n.kids z.p)
theorem exec_param (t : List Tok) : exec paramQ t = paramR t := by
  unfold paramQ paramR
  simp only [exec_look, exec_eatW, exec_bind, exec_ret, exec_typed 7 _ _ _ _ (exec_named 9) exec_ptype]
  by_cases h : wd t = [86, 65, 82]
  · simp only [if_pos h, Rs.bind_ok, decide_eq_true h]
  · simp only [if_neg h, Rs.bind_ok, decide_eq_false h]
def headQ : Pg Nd := .len fun n => eatW [40] (fun _ => (seeW [41] (.ret (lst [])) (rowQ [59] paramQ (n + 1) [])).bind fun l => (mustP [41]).bind fun _ => eatW [58] (fun _ => (namedQ 8).bind fun y => .ret (lst (l.kids ++ [y]))) (.ret (lst l.kids))) (.ret (lst []))
theorem exec_head (t : List Tok) : exec headQ t = headR t := by
  unfold headQ headR
  simp only [exec_len, exec_eatW, exec_bind, exec_ret, exec_seeW, exec_must, exec_named, exec_row [59] _ _ exec_param]
def endQ (x : Bs) : Pg Tok := (mustP [69, 78, 68]).bind fun _ => .look fun z => if z.k = 1 ∧ z.t ≠ x then .fail 92 else nameQ
theorem exec_end (x : Bs) (t : List Tok) : exec (endQ x) t = endR x t := by
  unfold endQ endR; simp only [exec_bind, exec_must, exec_look, exec_ite, exec_fail, exec_name]
def bodyQ (o : Nat) (l : List Nd) : Pg Nd := eatW [66, 69, 71, 73, 78] (fun _ => (blockQ o).bind fun y => .ret (lst (l ++ [y]))) (.ret (lst l))
theorem exec_body (o : Nat) (l : List Nd) (t : List Tok) : exec (bodyQ o l) t = bodyR o l t := by
  unfold bodyQ bodyR; simp only [exec_eatW, exec_bind, exec_block, exec_ret]
def procQ (o : Nat) : Pg Nd := (mustP [80, 82, 79, 67, 69, 68, 85, 82, 69]).bind fun x => (markedQ 6).bind fun n => headQ.bind fun l1 => (mustP [59]).bind fun _ =>
  (sectQ [67, 79, 78, 83, 84] (constQ o)).bind fun l2 => (sectQ [86, 65, 82] (varsQ o)).bind fun l3 => (bodyQ o (l1.kids ++ l2.kids ++ l3.kids)).bind fun l4 =>
  (Pg.look fun z => eatW [82, 69, 84, 85, 82, 78] (fun _ => (exprQ o).bind fun y => .ret (lst (l4.kids ++ [.mk 23 [] 0 false [y] z.p]))) (.ret l4)).bind fun l5 => match n with
  | .mk k z v f _ _ => (endQ z).bind fun _ => .ret (.mk k z v f l5.kids x.p)
theorem exec_proc (o : Nat) (t : List Tok) : exec (procQ o) t = procR o t := by
  unfold procQ procR
  simp only [exec_bind, exec_must, exec_marked, exec_head, exec_sect _ _ _ (exec_const o), exec_sect _ _ _ (exec_vars o), exec_body, exec_look, exec_eatW, exec_expr, exec_ret]
  congr 1; funext x r; congr 1; funext n r
  cases n
  simp only [exec_bind, exec_end, exec_ret]
def procsQ : Nat → List Nd → Pg Nd
  | 0, _ => .out
  | f + 1, acc => seeW [80, 82, 79, 67, 69, 68, 85, 82, 69] ((procQ 0).bind fun x => (mustP [59]).bind fun _ => procsQ f (acc ++ [x])) (.ret (lst acc))
theorem exec_procs : ∀ (f : Nat) (acc : List Nd) (t : List Tok), exec (procsQ f acc) t = procsR f acc t := by
  intro f
  induction f with
  | zero => intro acc t; rfl
  | succ f ih => intro acc t; simp only [procsQ, procsR, exec_bind, exec_seeW, exec_must, exec_ret, exec_proc, ih]
def moduleQ : Pg Nd := (mustP [77, 79, 68, 85, 76, 69]).bind fun x => nameQ.bind fun z => (mustP [59]).bind fun _ =>
  (Pg.len fun n => eatW [73, 77, 80, 79, 82, 84] (fun _ => (rowQ [44] (namedQ 2) (n + 1) []).bind fun l => (mustP [59]).bind fun _ => .ret l) (.ret (lst []))).bind fun l0 =>
  (sectQ [67, 79, 78, 83, 84] (constQ 0)).bind fun l1 => (sectQ [84, 89, 80, 69] (tnameQ 0)).bind fun l2 => (sectQ [86, 65, 82] (varsQ 0)).bind fun l3 =>
  (Pg.len fun n => procsQ (n + 1) (l0.kids ++ l1.kids ++ l2.kids ++ l3.kids)).bind fun l4 => (bodyQ 0 l4.kids).bind fun l5 => (endQ z.t).bind fun _ => (mustP [46]).bind fun _ => .ret (.mk 1 z.t 0 false l5.kids x.p)
theorem exec_module (t : List Tok) : exec moduleQ t = moduleR t := by
  unfold moduleQ moduleR
  simp only [exec_bind, exec_must, exec_name, exec_len, exec_eatW, exec_row [44] _ _ (exec_named 2), exec_ret, exec_sect _ _ _ (exec_const 0), exec_sect _ _ _ (exec_vars 0), exec_sect _ _ _ (exec_tname 0), exec_procs, exec_body, exec_end]
end Go.Proofs.YtllhcjmabhempaaDoor

namespace Go.Proofs.YtllhcjmabhempaaDoor
set_option linter.unusedVariables false
set_option linter.unusedSimpArgs false

/-- Tokens alike: the same but for their places, which are in a relation; or (of expressions alone) the end beside an END. -/
def TkL (ex : Bool) (Pl : Nat → Nat → Prop) (x y : Tok) : Prop := Pl x.p y.p ∧ ((x.k = y.k ∧ x.t = y.t ∧ x.n = y.n) ∨ (ex = true ∧ x.k = 0 ∧ y.k = 2 ∧ y.t = [69, 78, 68]))
inductive TksL (ex : Bool) (Pl : Nat → Nat → Prop) : List Tok → List Tok → Prop
  | nil : TksL ex Pl [] []
  | cons {x y : Tok} {a b : List Tok} : TkL ex Pl x y → TksL ex Pl a b → TksL ex Pl (x :: a) (y :: b)
mutual
/-- Trees alike: the same but for places. -/
inductive NdL (Pl : Nat → Nat → Prop) : Nd → Nd → Prop
  | mk (k : Int) (t : Bs) (n : Int) (f : Bool) {l l' : List Nd} {p q : Nat} : Pl p q → NdsL Pl l l' → NdL Pl (.mk k t n f l p) (.mk k t n f l' q)
inductive NdsL (Pl : Nat → Nat → Prop) : List Nd → List Nd → Prop
  | nil : NdsL Pl [] []
  | cons {a a' : Nd} {l l' : List Nd} : NdL Pl a a' → NdsL Pl l l' → NdsL Pl (a :: l) (a' :: l')
end
theorem NdsL.app {Pl : Nat → Nat → Prop} : ∀ {l l' : List Nd}, NdsL Pl l l' → ∀ {m m' : List Nd}, NdsL Pl m m' → NdsL Pl (l ++ m) (l' ++ m')
  | _, _, .nil, _, _, h => h
  | _, _, .cons a r, _, _, h => .cons a (r.app h)
theorem NdsL.one {Pl : Nat → Nat → Prop} {a a' : Nd} (h : NdL Pl a a') : NdsL Pl [a] [a'] := .cons h .nil
theorem NdL.kids {Pl : Nat → Nat → Prop} {a a' : Nd} (h : NdL Pl a a') : NdsL Pl a.kids a'.kids := by cases h; assumption
theorem NdL.lst {Pl : Nat → Nat → Prop} (h0 : Pl 0 0) {l l' : List Nd} (h : NdsL Pl l l') : NdL Pl (lst l) (lst l') := .mk _ _ _ _ h0 h
theorem idx_alike {Pl : Nat → Nat → Prop} {p p' : Nat} (hp : Pl p p') : ∀ {l l' : List Nd}, NdsL Pl l l' → ∀ {a a' : Nd}, NdL Pl a a' → NdL Pl (idxN p a l) (idxN p' a' l')
  | _, _, .nil, _, _, h => h
  | _, _, .cons b r, _, _, h => idx_alike hp r (.mk _ _ _ _ hp (.cons h (.cons b .nil)))
/-- Readers alike. -/
inductive PL {α : Type} (T : Tok → Tok → Prop) (Q : α → α → Prop) : Pg α → Pg α → Prop
  | ret {a a' : α} : Q a a' → PL T Q (.ret a) (.ret a')
  | fail (e : Int) : PL T Q (.fail e) (.fail e)
  | outL (p : Pg α) : PL T Q .out p
  | outR (p : Pg α) : PL T Q p .out
  | len {k k' : Nat → Pg α} : (∀ n n', PL T Q (k n) (k' n')) → PL T Q (.len k) (.len k')
  | look {k k' : Tok → Pg α} : (∀ x x', T x x' → PL T Q (k x) (k' x')) → PL T Q (.look k) (.look k')
  | eat {c c' : Tok → Bool} {X X' : Tok → Pg α} {Y Y' : Pg α} : (∀ x x', T x x' → c x = c' x') → (∀ x, c x = true → x.k ≠ 0) → (∀ x, c' x = true → x.k ≠ 0) → (∀ x x', T x x' → c x = true → PL T Q (X x) (X' x')) → PL T Q Y Y' → PL T Q (.eat c X Y) (.eat c' X' Y')
theorem PL.bind {α β : Type} {T : Tok → Tok → Prop} {Q : α → α → Prop} {Q2 : β → β → Prop} {p p' : Pg α} {f f' : α → Pg β} (h : PL T Q p p') (hf : ∀ a a', Q a a' → PL T Q2 (f a) (f' a')) : PL T Q2 (p.bind f) (p'.bind f') := by
  induction h with
  | ret h => exact hf _ _ h
  | fail e => exact .fail e
  | outL p => exact .outL _
  | outR p => exact .outR _
  | look _ ih => exact .look ih
  | len _ ih => exact .len ih
  | eat h1 h2 h3 _ _ ih1 ih2 => exact .eat h1 h2 h3 ih1 ih2
/-- Tokens of which the last, and no other, is the end. -/
def GoodT (t : List Tok) : Prop := t ≠ [] ∧ ∀ x r, (x :: r) <:+ t → x.k ≠ 0 → r ≠ []
def Sf (s t : List Tok) : Prop := s ≠ [] ∧ s <:+ t
theorem GoodT.sf {s t : List Tok} (h : GoodT t) (hs : Sf s t) : GoodT s := ⟨hs.1, fun x r hx => h.2 x r (hx.trans hs.2)⟩
theorem GoodT.tail {t : List Tok} (h : GoodT t) (hk : (hd t).k ≠ 0) : Sf t.tail t := by
  cases t with
  | nil => exact absurd rfl h.1
  | cons x r => exact ⟨h.2 x r (List.suffix_refl _) hk, ⟨[x], rfl⟩⟩
theorem hd_mem {t : List Tok} (h : t ≠ []) : (hd t).p ∈ t.map (·.p) := by
  cases t with
  | nil => exact absurd rfl h
  | cons x r => simp [hd]
/-- A reader that passes no end. -/
inductive OkP {α : Type} : Pg α → Prop
  | ret (a : α) : OkP (.ret a)
  | fail (e : Int) : OkP (.fail e)
  | out : OkP .out
  | len {k : Nat → Pg α} : (∀ n, OkP (k n)) → OkP (.len k)
  | look {k : Tok → Pg α} : (∀ x, OkP (k x)) → OkP (.look k)
  | eat {c : Tok → Bool} {X : Tok → Pg α} {Y : Pg α} : (∀ x, c x = true → x.k ≠ 0) → (∀ x, OkP (X x)) → OkP Y → OkP (.eat c X Y)
theorem OkP.bind {α β : Type} {p : Pg α} {f : α → Pg β} (h : OkP p) (hf : ∀ a, OkP (f a)) : OkP (p.bind f) := by
  induction h with
  | ret a => exact hf a
  | fail e => exact .fail e
  | out => exact .out
  | look _ ih => exact .look ih
  | len _ ih => exact .len ih
  | eat h1 _ _ ih1 ih2 => exact .eat h1 ih1 ih2
/-- What is read ends among these tokens, or is refused at one of them (or the fuel ends). -/
def EscP {α : Type} (r : Rs α) (t : List Tok) : Prop := match r with
  | .ok _ s => Sf s t
  | .bad p e => p ∈ t.map (·.p) ∨ (p = 0 ∧ e = 0)
theorem EscP.up {α : Type} {r : Rs α} {s t : List Tok} (h : EscP r s) (hs : s <:+ t) : EscP r t := by
  cases r with
  | ok n u => exact ⟨h.1, h.2.trans hs⟩
  | bad p e => exact h.imp (fun h => (hs.map _).subset h) id
theorem OkP.esc {α : Type} {p : Pg α} (h : OkP p) : ∀ t, GoodT t → EscP (exec p t) t := by
  induction h with
  | ret a => intro t hg; exact ⟨hg.1, List.suffix_refl _⟩
  | fail e => intro t hg; exact .inl (hd_mem hg.1)
  | out => intro t hg; exact .inr ⟨rfl, rfl⟩
  | look _ ih => intro t hg; exact ih _ t hg
  | len _ ih => intro t hg; exact ih _ t hg
  | eat h1 _ _ ih1 ih2 =>
    intro t hg
    simp only [exec]
    split
    · rename_i h
      have hs := hg.tail (h1 _ h)
      exact (ih1 _ _ (hg.sf hs)).up hs.2
    · exact ih2 t hg
/-- Two readings, of tokens that are alike up to a point. -/
def LocP {α : Type} (ex : Bool) (Pl : Nat → Nat → Prop) (Q : α → α → Prop) (A B B' : List Tok) (r r' : Rs α) : Prop :=
  (∃ n n' C C', r = .ok n (C ++ B) ∧ r' = .ok n' (C' ++ B') ∧ Q n n' ∧ TksL ex Pl C C' ∧ C ≠ [] ∧ C <:+ A) ∨
  (∃ q q' e, r = .bad q e ∧ r' = .bad q' e ∧ Pl q q' ∧ q ∈ A.map (·.p)) ∨
  (r = .bad 0 0 ∨ r' = .bad 0 0) ∨ (EscP r B ∧ EscP r' B')
theorem LocP.up {α : Type} {ex : Bool} {Pl : Nat → Nat → Prop} {Q : α → α → Prop} {A A2 B B' : List Tok} {r r' : Rs α} (h : LocP ex Pl Q A2 B B' r r') (hs : A2 <:+ A) : LocP ex Pl Q A B B' r r' := by
  rcases h with ⟨n, n', C, C', h1, h2, h3, h4, h5, h6⟩ | ⟨q, q', e, h1, h2, h3, h4⟩ | h | h
  · exact .inl ⟨n, n', C, C', h1, h2, h3, h4, h5, h6.trans hs⟩
  · exact .inr (.inl ⟨q, q', e, h1, h2, h3, (hs.map _).subset h4⟩)
  · exact .inr (.inr (.inl h))
  · exact .inr (.inr (.inr h))
theorem loc_exec {α : Type} {ex : Bool} {Pl : Nat → Nat → Prop} {Q : α → α → Prop} {p p' : Pg α} (h : PL (TkL ex Pl) Q p p') : OkP p → OkP p' → ∀ {A A' : List Tok} (B B' : List Tok), TksL ex Pl A A' → A ≠ [] → GoodT (A ++ B) → GoodT (A' ++ B') → LocP ex Pl Q A B B' (exec p (A ++ B)) (exec p' (A' ++ B')) := by
  induction h with
  | ret h => intro _ _ A A' B B' hA hn _ _; exact .inl ⟨_, _, A, A', rfl, rfl, h, hA, hn, List.suffix_refl _⟩
  | fail e =>
    intro _ _ A A' B B' hA hn _ _
    cases hA with
    | nil => exact absurd rfl hn
    | cons h _ => exact .inr (.inl ⟨_, _, e, rfl, rfl, h.1, by simp [hd]⟩)
  | outL p => intro _ _ A A' B B' hA hn _ _; exact .inr (.inr (.inl (.inl rfl)))
  | outR p => intro _ _ A A' B B' hA hn _ _; exact .inr (.inr (.inl (.inr rfl)))
  | len _ ih =>
    intro o1 o2 A A' B B' hA hn g1 g2
    cases o1 with | len o1 =>
    cases o2 with | len o2 =>
    exact ih _ _ (o1 _) (o2 _) B B' hA hn g1 g2
  | look _ ih =>
    intro o1 o2 A A' B B' hA hn g1 g2
    cases o1 with | look o1 =>
    cases o2 with | look o2 =>
    cases hA with
    | nil => exact absurd rfl hn
    | cons h r => exact ih _ _ h (o1 _) (o2 _) B B' (.cons h r) hn g1 g2
  | @eat c c' X X' Y Y' h1 h2 h3 hX hY ih1 ih2 =>
    intro o1 o2 A A' B B' hA hn g1 g2
    cases o1 with | eat _ oX oY =>
    cases o2 with | eat _ oX' oY' =>
    cases hA with
    | nil => exact absurd rfl hn
    | @cons x y a b h r =>
      have e1 : hd (x :: a ++ B) = x := rfl
      have e2 : hd (y :: b ++ B') = y := rfl
      simp only [exec, e1, e2]
      rw [← h1 x y h]
      by_cases hc : c x = true
      · rw [if_pos hc, if_pos hc]
        show LocP ex Pl Q (x :: a) B B' (exec (X x) (a ++ B)) (exec (X' y) (b ++ B'))
        have k1 := g1.tail (h2 x hc)
        have k2 := g2.tail (h3 y (by rw [← h1 x y h]; exact hc))
        cases r with
        | nil => exact .inr (.inr (.inr ⟨(oX x).esc _ (g1.sf k1), (oX' y).esc _ (g2.sf k2)⟩))
        | cons h' r' => exact (ih1 x y h hc (oX x) (oX' y) B B' (.cons h' r') (by simp) (g1.sf k1) (g2.sf k2)).up ⟨[x], rfl⟩
      · rw [if_neg hc, if_neg hc]
        exact ih2 oY oY' B B' (.cons h r) hn g1 g2
theorem wdT_kind {x : Tok} {s : Bs} (hs : s ≠ []) (h : wdT x = s) : x.k ≠ 0 := by
  intro e; apply hs; rw [← h]; unfold wdT; rw [e]; simp
theorem rank_kind {x : Tok} {k : Int} (hk : k ≠ 0) (h : rankP (wdT x) = k) : x.k ≠ 0 := by
  refine wdT_kind (s := wdT x) ?_ rfl
  intro e; rw [e] at h; exact hk (by rw [← h]; rfl)
section
variable {α : Type} {X : Tok → Pg α} {Y Z : Pg α} {s : Bs} {k : Int} {o n : Nat}
theorem OkP.eatW (hs : s ≠ []) (hX : ∀ x, OkP (X x)) (hY : OkP Y) : OkP (eatW s X Y) := .eat (fun x h => wdT_kind hs (by simpa [isW] using h)) hX hY
theorem OkP.eatK (hk : k ≠ 0) (hX : ∀ x, OkP (X x)) (hY : OkP Y) : OkP (eatK k X Y) := .eat (fun x h => by simp at h; rw [h]; exact hk) hX hY
theorem OkP.eatR (hk : k ≠ 0) (hX : ∀ x, OkP (X x)) (hY : OkP Y) : OkP (eatR k X Y) := .eat (fun x h => rank_kind hk (by simpa using h)) hX hY
theorem OkP.opn (hs : s ≠ []) (hX : ∀ x, OkP (X x)) (hY : OkP Y) : OkP (opnP s o X Y) := by
  unfold opnP
  split
  · exact .look fun x => by split; exact .fail _; exact hY
  · exact .eatW hs hX hY
theorem OkP.seeW (hZ : OkP Z) (hY : OkP Y) : OkP (seeW s Z Y) := .look fun x => by split; exact hZ; exact hY
theorem OkP.seeK (hZ : OkP Z) (hY : OkP Y) : OkP (seeK k Z Y) := .look fun x => by split; exact hZ; exact hY
theorem OkP.must (hs : s ≠ []) : OkP (mustP s) := .eatW hs (fun _ => .ret _) (.fail _)
theorem OkP.name : OkP nameQ := .eatK (by decide) (fun _ => .ret _) (.fail _)
/-- The fuel is enough for so many tokens. -/
def En (p : Pg α) (n : Nat) : Prop := ∀ t, GoodT t → t.length ≤ n → exec p t ≠ .bad 0 0
theorem En.zero (p : Pg α) : En p 0 := fun t hg hl => absurd (List.eq_nil_of_length_eq_zero (by omega)) hg.1
theorem En.mono {p : Pg α} {m : Nat} (h : En p n) (hm : m ≤ n) : En p m := fun t hg hl => h t hg (by omega)
theorem En.ret (a : α) : En (.ret a) n := fun t _ _ => by simp [exec]
theorem En.fail {e : Int} (he : e ≠ 0) : En (.fail e : Pg α) n := fun t _ _ => by simp only [exec, ne_eq, Rs.bad.injEq, not_and]; exact fun _ => he
theorem En.look {k : Tok → Pg α} (h : ∀ x, En (k x) n) : En (.look k) n := fun t hg hl => h _ t hg hl
theorem En.len {k : Nat → Pg α} (h : ∀ m, m ≤ n → En (k m) m) : En (.len k) n := fun t hg hl => h _ hl t hg (Nat.le_refl _)
theorem En.eat {c : Tok → Bool} (hc : ∀ x, c x = true → x.k ≠ 0) (hX : ∀ x, En (X x) (n - 1)) (hY : En Y n) : En (.eat c X Y) n := fun t hg hl => by
  simp only [exec]
  split
  · rename_i h
    have hs := hg.tail (hc _ h)
    exact hX _ _ (hg.sf hs) (by simp; omega)
  · exact hY t hg hl
theorem En.eatW (hs : s ≠ []) (hX : ∀ x, En (X x) (n - 1)) (hY : En Y n) : En (eatW s X Y) n := .eat (fun x h => wdT_kind hs (by simpa [isW] using h)) hX hY
theorem En.eatK (hk : k ≠ 0) (hX : ∀ x, En (X x) (n - 1)) (hY : En Y n) : En (eatK k X Y) n := .eat (fun x h => by simp at h; rw [h]; exact hk) hX hY
theorem En.eatR (hk : k ≠ 0) (hX : ∀ x, En (X x) (n - 1)) (hY : En Y n) : En (eatR k X Y) n := .eat (fun x h => rank_kind hk (by simpa using h)) hX hY
theorem En.opn (hs : s ≠ []) (hX : ∀ x, En (X x) (n - 1)) (hY : En Y n) : En (opnP s o X Y) n := by
  unfold opnP
  split
  · exact .look fun x => by split; exact .fail (by decide); exact hY
  · exact .eatW hs hX hY
theorem En.seeW (hZ : En Z n) (hY : En Y n) : En (seeW s Z Y) n := .look fun x => by split; exact hZ; exact hY
theorem En.seeK (hZ : En Z n) (hY : En Y n) : En (seeK k Z Y) n := .look fun x => by split; exact hZ; exact hY
theorem En.must (hs : s ≠ []) : En (mustP s) n := .eatW hs (fun _ => .ret _) (.fail (by decide))
theorem En.name : En nameQ n := .eatK (by decide) (fun _ => .ret _) (.fail (by decide))
theorem En.bind {β : Type} {p : Pg α} {f : α → Pg β} (ho : OkP p) (hp : En p n) (hf : ∀ a, En (f a) n) : En (p.bind f) n := fun t hg hl => by
  rw [exec_bind]
  have h1 := hp t hg hl
  have h2 := ho.esc t hg
  cases he : exec p t with
  | ok a r =>
    rw [he] at h2
    rw [Rs.bind_ok]
    exact hf a r (hg.sf h2) (Nat.le_trans h2.2.length_le hl)
  | bad q e => rw [he] at h1; rw [Rs.bind_bad]; simpa using h1
end
def lw : NT → Nat
  | .expr => 20
  | .simple => 18
  | .simpleL _ => 17
  | .first => 16
  | .term => 14
  | .termL _ => 13
  | .factor => 12
  | .desig => 10
  | .desigL _ => 9
  | .elem => 25
  | .row _ p _ => lw p + 5
def NtOk : NT → Prop
  | .row s p _ => s ≠ [] ∧ NtOk p
  | _ => True
theorem ok_run : ∀ (f : Nat) (nt : NT) (o : Nat), NtOk nt → OkP (runP f nt o) := by
  intro f
  induction f with
  | zero => intro nt o _; cases nt <;> exact .out
  | succ f ih =>
    intro nt o hn
    have i1 : ∀ nt o, (∀ s p a, nt ≠ .row s p a) → OkP (runP f nt o) := fun nt o h => ih nt o (by cases nt <;> first | trivial | exact absurd rfl (h _ _ _))
    have r1 : ∀ acc o, OkP (runP f (.row [44] .elem acc) o) := fun acc o => ih _ o ⟨by decide, trivial⟩
    have r2 : ∀ acc o, OkP (runP f (.row [44] .expr acc) o) := fun acc o => ih _ o ⟨by decide, trivial⟩
    cases nt with
    | row s p acc => exact (ih p o hn.2).bind fun x => .eatW hn.1 (fun _ => ih _ o hn) (.ret _)
    | _ =>
      simp only [runP]
      repeat' first
        | exact OkP.ret _
        | exact OkP.fail _
        | exact OkP.name
        | exact OkP.must (by decide)
        | exact r1 _ _
        | exact r2 _ _
        | exact i1 _ _ (by intros; simp)
        | refine OkP.bind ?_ ?_
        | refine OkP.eatR (by decide) ?_ ?_
        | refine OkP.eatW (by decide) ?_ ?_
        | refine OkP.eatK (by decide) ?_ ?_
        | refine OkP.opn (by decide) ?_ ?_
        | refine OkP.seeW ?_ ?_
        | refine OkP.seeK ?_ ?_
        | refine OkP.look ?_
        | intro _
theorem en_run : ∀ (f : Nat) (nt : NT) (o n : Nat), NtOk nt → n * 40 + lw nt ≤ f → En (runP f nt o) n := by
  intro f
  induction f with
  | zero =>
    intro nt o n _ hf
    exfalso
    have : 1 ≤ lw nt := by cases nt <;> simp [lw]
    omega
  | succ f ih =>
    intro nt o n hn hf
    by_cases h0 : n = 0
    · subst h0; exact .zero _
    have r1 : ∀ acc o, (n - 1) * 40 + 30 ≤ f → En (runP f (.row [44] .elem acc) o) (n - 1) := fun acc o h => ih _ o _ ⟨by decide, trivial⟩ (by simp only [lw]; omega)
    have r2 : ∀ acc o, (n - 1) * 40 + 25 ≤ f → En (runP f (.row [44] .expr acc) o) (n - 1) := fun acc o h => ih _ o _ ⟨by decide, trivial⟩ (by simp only [lw]; omega)
    have k1 : ∀ acc o, OkP (runP f (.row [44] .elem acc) o) := fun acc o => ok_run f _ o ⟨by decide, trivial⟩
    have k2 : ∀ acc o, OkP (runP f (.row [44] .expr acc) o) := fun acc o => ok_run f _ o ⟨by decide, trivial⟩
    cases nt with
    | row s p acc =>
      simp only [lw] at hf
      exact .bind (ok_run f p o hn.2) (ih p o n hn.2 (by omega)) fun x => .eatW hn.1 (fun _ => ih _ o _ hn (by simp only [lw]; omega)) (.ret _)
    | _ =>
      simp only [runP]
      simp only [lw] at hf
      repeat' first
        | exact En.ret _
        | exact En.fail (by decide)
        | exact En.name
        | exact En.must (by decide)
        | exact r1 _ _ (by omega)
        | exact r2 _ _ (by omega)
        | exact ih _ _ _ trivial (by simp only [lw]; omega)
        | refine En.bind (OkP.must (by decide)) ?_ ?_
        | refine En.bind OkP.name ?_ ?_
        | refine En.bind (ok_run _ _ _ trivial) ?_ ?_
        | refine En.bind (k1 _ _) ?_ ?_
        | refine En.bind (k2 _ _) ?_ ?_
        | refine En.bind (OkP.seeW (OkP.ret _) (k1 _ _)) ?_ ?_
        | refine En.bind (OkP.seeW (OkP.ret _) (k2 _ _)) ?_ ?_
        | refine En.eatR (by decide) ?_ ?_
        | refine En.eatW (by decide) ?_ ?_
        | refine En.eatK (by decide) ?_ ?_
        | refine En.opn (by decide) ?_ ?_
        | refine En.seeW ?_ ?_
        | refine En.seeK ?_ ?_
        | refine En.look ?_
        | intro _
end Go.Proofs.YtllhcjmabhempaaDoor

namespace Go.Proofs.YtllhcjmabhempaaDoor
set_option linter.unusedVariables false
set_option linter.unusedSimpArgs false

/-- Tokens of one kind, text and number, at places in a relation. -/
structure Tw (Pl : Nat → Nat → Prop) (x y : Tok) : Prop where
  p : Pl x.p y.p
  k : x.k = y.k
  t : x.t = y.t
  n : x.n = y.n
theorem TkL.same {ex : Bool} {Pl : Nat → Nat → Prop} {x y : Tok} (h : TkL ex Pl x y) (hk : x.k ≠ 0) : Tw Pl x y := by
  obtain ⟨hp, ⟨h1, h2, h3⟩ | ⟨_, h1, _⟩⟩ := h
  · exact ⟨hp, h1, h2, h3⟩
  · exact absurd h1 hk
theorem alike_wd {ex : Bool} {Pl : Nat → Nat → Prop} {x y : Tok} (h : TkL ex Pl x y) {s : Bs} (hs : s ≠ []) (he : ex = true → s ≠ [69, 78, 68]) : (wdT x = s) = (wdT y = s) := by
  obtain ⟨hp, ⟨h1, h2, h3⟩ | ⟨e, h1, h2, h3⟩⟩ := h
  · unfold wdT; rw [h1, h2]
  · unfold wdT; rw [h1, h2, h3]; simp
    exact ⟨fun e1 => (hs (by first | exact e1 | exact e1.symm)).elim, fun e1 => (he e (by first | exact e1 | exact e1.symm)).elim⟩
theorem alike_k {ex : Bool} {Pl : Nat → Nat → Prop} {x y : Tok} (h : TkL ex Pl x y) {k : Int} (h0 : k ≠ 0) (h2 : k ≠ 2) : (x.k = k) = (y.k = k) := by
  obtain ⟨hp, ⟨e1, _⟩ | ⟨e, e1, e2, e3⟩⟩ := h
  · rw [e1]
  · rw [e1, e2]; simp; omega
theorem alike_rank {ex : Bool} {Pl : Nat → Nat → Prop} {x y : Tok} (h : TkL ex Pl x y) : rankP (wdT x) = rankP (wdT y) := by
  obtain ⟨hp, ⟨h1, h2, h3⟩ | ⟨e, h1, h2, h3⟩⟩ := h
  · unfold wdT; rw [h1, h2]
  · unfold wdT; rw [h1, h2, h3]; rfl
section
variable {α : Type} {ex : Bool} {Pl : Nat → Nat → Prop} {Q : α → α → Prop} {X X' : Tok → Pg α} {Y Y' Z Z' : Pg α} {s : Bs} {k : Int} {o : Nat}
theorem PL.eatW (hs : s ≠ []) (he : ex = true → s ≠ [69, 78, 68]) (hX : ∀ x x', Tw Pl x x' → PL (TkL ex Pl) Q (X x) (X' x')) (hY : PL (TkL ex Pl) Q Y Y') : PL (TkL ex Pl) Q (eatW s X Y) (eatW s X' Y') :=
  .eat (fun x x' h => by unfold isW; simp only [alike_wd h hs he]) (fun x h => wdT_kind hs (by simpa [isW] using h)) (fun x h => wdT_kind hs (by simpa [isW] using h)) (fun x x' h hc => hX x x' (h.same (wdT_kind hs (by simpa [isW] using hc)))) hY
theorem PL.eatK (h0 : k ≠ 0) (h2 : k ≠ 2) (hX : ∀ x x', Tw Pl x x' → PL (TkL ex Pl) Q (X x) (X' x')) (hY : PL (TkL ex Pl) Q Y Y') : PL (TkL ex Pl) Q (eatK k X Y) (eatK k X' Y') :=
  .eat (fun x x' h => by simp only [alike_k h h0 h2]) (fun x h => by simp at h; rw [h]; exact h0) (fun x h => by simp at h; rw [h]; exact h0) (fun x x' h hc => hX x x' (h.same (by simp at hc; rw [hc]; exact h0))) hY
theorem PL.eatR (h0 : k ≠ 0) (hX : ∀ x x', Tw Pl x x' → PL (TkL ex Pl) Q (X x) (X' x')) (hY : PL (TkL ex Pl) Q Y Y') : PL (TkL ex Pl) Q (eatR k X Y) (eatR k X' Y') :=
  .eat (fun x x' h => by simp only [alike_rank h]) (fun x h => rank_kind h0 (by simpa using h)) (fun x h => rank_kind h0 (by simpa using h)) (fun x x' h hc => hX x x' (h.same (rank_kind h0 (by simpa using hc)))) hY
theorem PL.seeW (hs : s ≠ []) (he : ex = true → s ≠ [69, 78, 68]) (hZ : PL (TkL ex Pl) Q Z Z') (hY : PL (TkL ex Pl) Q Y Y') : PL (TkL ex Pl) Q (seeW s Z Y) (seeW s Z' Y') :=
  .look fun x x' h => by
    have e := alike_wd h hs he
    by_cases hc : wdT x = s
    · rw [if_pos hc, if_pos (e ▸ hc)]; exact hZ
    · rw [if_neg hc, if_neg (e ▸ hc)]; exact hY
theorem PL.seeK (h0 : k ≠ 0) (h2 : k ≠ 2) (hZ : PL (TkL ex Pl) Q Z Z') (hY : PL (TkL ex Pl) Q Y Y') : PL (TkL ex Pl) Q (seeK k Z Y) (seeK k Z' Y') :=
  .look fun x x' h => by
    have e := alike_k h h0 h2
    by_cases hc : x.k = k
    · rw [if_pos hc, if_pos (e ▸ hc)]; exact hZ
    · rw [if_neg hc, if_neg (e ▸ hc)]; exact hY
theorem PL.opn (hs : s ≠ []) (he : ex = true → s ≠ [69, 78, 68]) (hX : ∀ x x', Tw Pl x x' → PL (TkL ex Pl) Q (X x) (X' x')) (hY : PL (TkL ex Pl) Q Y Y') : PL (TkL ex Pl) Q (opnP s o X Y) (opnP s o X' Y') := by
  unfold opnP
  by_cases ho : o = 24
  · rw [if_pos ho, if_pos ho]; exact .seeW hs he (.fail _) hY
  · rw [if_neg ho, if_neg ho]; exact .eatW hs he hX hY
end
theorem PL.must {ex : Bool} {Pl : Nat → Nat → Prop} {s : Bs} (hs : s ≠ []) (he : ex = true → s ≠ [69, 78, 68]) : PL (TkL ex Pl) (Tw Pl) (mustP s) (mustP s) := .eatW hs he (fun _ _ h => .ret h) (.fail _)
theorem PL.name {ex : Bool} {Pl : Nat → Nat → Prop} : PL (TkL ex Pl) (Tw Pl) nameQ nameQ := .eatK (by decide) (by decide) (fun _ _ h => .ret h) (.fail _)
inductive NtL (Pl : Nat → Nat → Prop) : NT → NT → Prop
  | expr : NtL Pl .expr .expr
  | simple : NtL Pl .simple .simple
  | simpleL {l l' : Nd} : NdL Pl l l' → NtL Pl (.simpleL l) (.simpleL l')
  | first : NtL Pl .first .first
  | term : NtL Pl .term .term
  | termL {l l' : Nd} : NdL Pl l l' → NtL Pl (.termL l) (.termL l')
  | factor : NtL Pl .factor .factor
  | desig : NtL Pl .desig .desig
  | desigL {l l' : Nd} : NdL Pl l l' → NtL Pl (.desigL l) (.desigL l')
  | elem : NtL Pl .elem .elem
  | row {p p' : NT} {a a' : List Nd} : NtL Pl p p' → NdsL Pl a a' → NtL Pl (.row [44] p a) (.row [44] p' a')
theorem pl_run {ex : Bool} {Pl : Nat → Nat → Prop} (h0 : Pl 0 0) : ∀ (f f' : Nat) (nt nt' : NT) (o : Nat), NtL Pl nt nt' → PL (TkL ex Pl) (NdL Pl) (runP f nt o) (runP f' nt' o) := by
  intro f
  induction f with
  | zero => intro f' nt nt' o h; cases nt <;> exact .outL _
  | succ f ih =>
    intro f' nt nt' o h
    cases f' with
    | zero => cases nt' <;> exact .outR _
    | succ f' =>
      have bin : ∀ {x x' : Tok} {l l' y y' : Nd}, Tw Pl x x' → NdL Pl l l' → NdL Pl y y' → NdL Pl (binN x l y) (binN x' l' y') := fun hx hl hy => by
        unfold binN; rw [hx.t]; exact .mk _ _ _ _ hx.p (.cons hl (.cons hy .nil))
      have un : ∀ {x x' : Tok} {y y' : Nd}, Tw Pl x x' → NdL Pl y y' → NdL Pl (unN x y) (unN x' y') := fun hx hy => by
        unfold unN; rw [hx.t]; exact .mk _ _ _ _ hx.p (.cons hy .nil)
      cases h with
      | expr => exact .bind (ih f' _ _ o .simple) fun l l' hl => .eatR (by decide) (fun x x' hx => .bind (ih f' _ _ o .simple) fun y y' hy => .ret (bin hx hl hy)) (.ret hl)
      | simple => exact .bind (ih f' _ _ o .first) fun l l' hl => ih f' _ _ o (.simpleL hl)
      | simpleL hl => exact .eatR (by decide) (fun x x' hx => .bind (ih f' _ _ o .term) fun y y' hy => ih f' _ _ o (.simpleL (bin hx hl hy))) (.ret hl)
      | first => exact .opn (by decide) (by simp) (fun x x' hx => .bind (ih f' _ _ _ .term) fun y y' hy => .ret (un hx hy)) (.opn (by decide) (by simp) (fun x x' hx => .bind (ih f' _ _ _ .term) fun y y' hy => .ret (un hx hy)) (ih f' _ _ o .term))
      | term => exact .bind (ih f' _ _ o .factor) fun l l' hl => ih f' _ _ o (.termL hl)
      | termL hl => exact .eatR (by decide) (fun x x' hx => .bind (ih f' _ _ o .factor) fun y y' hy => ih f' _ _ o (.termL (bin hx hl hy))) (.ret hl)
      | factor =>
        refine .seeK (by decide) (by decide) (ih f' _ _ o .desig) (.eatK (by decide) (by decide) (fun x x' hx => .ret ?_) (.eatK (by decide) (by decide) (fun x x' hx => .ret ?_) (.eatK (by decide) (by decide) (fun x x' hx => .ret ?_) (.eatW (by decide) (by simp) (fun x x' hx => .ret ?_) (.eatW (by decide) (by simp) (fun x x' hx => .ret ?_) (.eatW (by decide) (by simp) (fun x x' hx => .ret ?_) (.opn (by decide) (by simp) (fun x x' hx => .bind (ih f' _ _ _ .factor) fun y y' hy => .ret (un hx hy)) (.opn (by decide) (by simp) (fun x x' hx => .bind (.seeW (by decide) (by simp) (.ret (.lst h0 .nil)) (ih f' _ _ _ (.row .elem .nil))) fun l l' hl => .bind (.must (by decide) (by simp)) fun _ _ _ => .ret ?_) (.opn (by decide) (by simp) (fun x x' hx => .bind (ih f' _ _ _ .expr) fun y y' hy => .bind (.must (by decide) (by simp)) fun _ _ _ => .ret hy) (.fail _))))))))))
        · rw [hx.n]; exact .mk _ _ _ _ hx.p .nil
        · rw [hx.n]; exact .mk _ _ _ _ hx.p .nil
        · rw [hx.t]; exact .mk _ _ _ _ hx.p .nil
        · exact .mk _ _ _ _ hx.p .nil
        · exact .mk _ _ _ _ hx.p .nil
        · exact .mk _ _ _ _ hx.p .nil
        · exact .mk _ _ _ _ hx.p hl.kids
      | elem => exact .bind (ih f' _ _ o .expr) fun x x' hx => .look fun z z' hz => .eatW (by decide) (by simp) (fun _ _ _ => .bind (ih f' _ _ o .expr) fun y y' hy => .ret (.mk _ _ _ _ hz.1 (.cons hx (.cons hy .nil)))) (.ret hx)
      | desig => exact .bind .name fun x x' hx => by rw [hx.t]; exact ih f' _ _ o (.desigL (.mk _ _ _ _ hx.p .nil))
      | desigL hl =>
        exact .look fun z z' hz => .eatW (by decide) (by simp) (fun _ _ _ => .bind .name fun y y' hy => by rw [hy.t]; exact ih f' _ _ o (.desigL (.mk _ _ _ _ hz.1 (.one hl)))) <|
          .opn (by decide) (by simp) (fun x x' hx => .bind (ih f' _ _ _ (.row .expr .nil)) fun y y' hy => .bind (.must (by decide) (by simp)) fun _ _ _ => ih f' _ _ o (.desigL (idx_alike hx.p hy.kids hl))) <|
          .eatW (by decide) (by simp) (fun _ _ _ => ih f' _ _ o (.desigL (.mk _ _ _ _ hz.1 (.one hl)))) <|
          .opn (by decide) (by simp) (fun x x' hx => .bind (.seeW (by decide) (by simp) (.ret (.lst h0 .nil)) (ih f' _ _ _ (.row .expr .nil))) fun y y' hy => .bind (.must (by decide) (by simp)) fun _ _ _ => ih f' _ _ o (.desigL (.mk _ _ _ _ hx.p (.cons hl hy.kids)))) (.ret hl)
      | row hp ha => exact .bind (ih f' _ _ o hp) fun x x' hx => .eatW (by decide) (by simp) (fun _ _ _ => ih f' _ _ o (.row hp (ha.app (.one hx)))) (.ret (.lst h0 (ha.app (.one hx))))
end Go.Proofs.YtllhcjmabhempaaDoor

namespace Go.Proofs.YtllhcjmabhempaaDoor
set_option linter.unusedVariables false
set_option linter.unusedSimpArgs false

theorem ok_expr (o : Nat) : OkP (exprQ o) := .len fun n => ok_run _ _ o trivial
theorem ok_desig (o : Nat) : OkP (desigQ o) := .len fun n => ok_run _ _ o trivial
theorem en_expr (o n : Nat) : En (exprQ o) n := .len fun m _ => en_run _ _ o m trivial (by simp only [lw]; omega)
theorem en_desig (o n : Nat) : En (desigQ o) n := .len fun m _ => en_run _ _ o m trivial (by simp only [lw]; omega)
theorem ok_named (k : Int) : OkP (namedQ k) := .bind .name fun _ => .ret _
theorem en_named (k : Int) (n : Nat) : En (namedQ k) n := .bind .name .name fun _ => .ret _
theorem ok_marked (k : Int) : OkP (markedQ k) := .bind .name fun _ => .eatW (by decide) (fun _ => .ret _) (.ret _)
theorem en_marked (k : Int) (n : Nat) : En (markedQ k) n := .bind .name .name fun _ => .eatW (by decide) (fun _ => .ret _) (.ret _)
theorem ok_row {s : Bs} (hs : s ≠ []) {part : Pg Nd} (h : OkP part) : ∀ f acc, OkP (rowQ s part f acc) := by
  intro f
  induction f with
  | zero => intro acc; exact .out
  | succ f ih => intro acc; exact .bind h fun _ => .eatW hs (fun _ => ih _) (.ret _)
theorem en_row {s : Bs} (hs : s ≠ []) {part : Pg Nd} (h : OkP part) : ∀ f n acc, En part n → n + 1 ≤ f → En (rowQ s part f acc) n := by
  intro f
  induction f with
  | zero => intro n acc _ hf; omega
  | succ f ih =>
    intro n acc hp hf
    by_cases h0 : n = 0
    · subst h0; exact .zero _
    exact .bind h hp fun _ => .eatW hs (fun _ => ih _ _ (hp.mono (by omega)) (by omega)) (.ret _)
theorem ok_many {part : Pg Nd} (h : OkP part) : ∀ f acc, OkP (manyQ part f acc) := by
  intro f
  induction f with
  | zero => intro acc; exact .out
  | succ f ih => intro acc; exact .seeK (.bind h fun _ => .bind (.must (by decide)) fun _ => ih _) (.ret _)
/-- A must that goes on passes a token. -/
theorem en_must {β : Type} {s : Bs} (hs : s ≠ []) {f : Tok → Pg β} {n : Nat} (hf : ∀ x, En (f x) (n - 1)) : En ((mustP s).bind f) n := .eatW hs hf (.fail (by decide))
theorem en_name {β : Type} {f : Tok → Pg β} {n : Nat} (hf : ∀ x, En (f x) (n - 1)) : En (nameQ.bind f) n := .eatK (by decide) hf (.fail (by decide))
theorem en_many {part : Pg Nd} (h : OkP part) : ∀ f n acc, En part n → n + 1 ≤ f → En (manyQ part f acc) n := by
  intro f
  induction f with
  | zero => intro n acc _ hf; omega
  | succ f ih =>
    intro n acc hp hf
    by_cases h0 : n = 0
    · subst h0; exact .zero _
    exact .seeK (.bind h hp fun _ => en_must (by decide) fun _ => ih _ _ (hp.mono (by omega)) (by omega)) (.ret _)
theorem ok_sect {key : Bs} (hk : key ≠ []) {part : Pg Nd} (h : OkP part) : OkP (sectQ key part) := .len fun n => .eatW hk (fun _ => ok_many h _ _) (.ret _)
theorem en_sect {key : Bs} (hk : key ≠ []) {part : Pg Nd} (h : OkP part) (hp : ∀ n, En part n) (n : Nat) : En (sectQ key part) n := .len fun m _ => .eatW hk (fun _ => en_many h _ _ _ (hp _) (by omega)) (.ret _)
def NsOk : NS → Prop
  | .br s _ => s ≠ []
  | _ => True
set_option maxHeartbeats 4000000 in
theorem ok_st : ∀ (f : Nat) (ns : NS) (o : Nat), NsOk ns → OkP (stQ f ns o) := by
  intro f
  induction f with
  | zero => intro ns o _; cases ns <;> exact .out
  | succ f ih =>
    intro ns o hn
    have ib := fun acc o => ih (.block acc) o trivial
    have is := fun o => ih .stat o trivial
    cases ns with
    | block acc =>
      refine .look fun z => ?_
      split
      · exact .bind (is o) fun _ => .eatW (by decide) (fun _ => ib _ _) (.ret _)
      · exact .eatW (by decide) (fun _ => ib _ _) (.ret _)
    | br s acc => exact .bind (ok_expr o) fun _ => .bind (.must hn) fun _ => .look fun _ => .bind (ib _ _) fun _ => .eatW (by decide) (fun _ => ih (.br s _) o hn) (.ret _)
    | stat =>
      have r1 := fun acc o => ih (.br [84, 72, 69, 78] acc) o (by show _ ≠ _; decide)
      have r2 := fun acc o => ih (.br [68, 79] acc) o (by show _ ≠ _; decide)
      simp only [stQ]
      refine .look fun z => .seeK (.bind (ok_desig _) fun d => .eatW (by decide) (fun _ => .bind (ok_expr _) fun _ => .ret _) (.ret _)) (.opn (by decide) (fun x => .bind (r1 _ _) fun l => .bind (.eatW (by decide) (fun _ => .look fun _ => .bind (ib _ _) fun _ => .ret _) (.ret _)) fun _ => .bind (.must (by decide)) fun _ => .ret _) ?_)
      refine .opn (by decide) (fun x => .bind (r2 _ _) fun l => .bind (.must (by decide)) fun _ => .ret _) ?_
      refine .opn (by decide) (fun x => .look fun z => .bind (ib _ _) fun l => .bind (.must (by decide)) fun _ => .bind (ok_expr _) fun _ => .ret _) ?_
      refine .opn (by decide) (fun x => .bind .name fun z => .bind (.must (by decide)) fun _ => .bind (ok_expr _) fun a => .bind (.must (by decide)) fun _ => .bind (ok_expr _) fun c => .bind (.eatW (by decide) (fun _ => .bind (ok_expr _) fun _ => .ret _) (.ret _)) fun l => .bind (.must (by decide)) fun _ => .look fun u => .bind (ib _ _) fun _ => .bind (.must (by decide)) fun _ => .ret _) (.fail _)
def lvS : NS → Nat
  | .block _ => 3
  | _ => 2
set_option maxHeartbeats 4000000 in
theorem en_st : ∀ (f : Nat) (ns : NS) (o n : Nat), NsOk ns → n * 4 + lvS ns ≤ f → En (stQ f ns o) n := by
  intro f
  induction f with
  | zero => intro ns o n _ hf; cases ns <;> simp [lvS] at hf
  | succ f ih =>
    intro ns o n hn hf
    by_cases h0 : n = 0
    · subst h0; exact .zero _
    have kb := fun acc o => ok_st f (.block acc) o trivial
    have ks := fun o => ok_st f .stat o trivial
    have ib : ∀ acc o m, m + 1 ≤ n → En (stQ f (.block acc) o) m := fun acc o m hm => ih (.block acc) o m trivial (by simp only [lvS]; cases ns <;> simp only [lvS] at hf <;> omega)
    cases ns with
    | block acc =>
      simp only [lvS] at hf
      refine .look fun z => ?_
      split
      · exact .bind (ks o) (ih .stat o n trivial (by simp only [lvS]; omega)) fun _ => .eatW (by decide) (fun _ => ib _ _ _ (by omega)) (.ret _)
      · exact .eatW (by decide) (fun _ => ib _ _ _ (by omega)) (.ret _)
    | br s acc =>
      simp only [lvS] at hf
      exact .bind (ok_expr o) (en_expr o n) fun _ => en_must hn fun _ => .look fun _ => .bind (kb _ _) (ib _ _ _ (by omega)) fun _ => .eatW (by decide) (fun _ => ih (.br s _) o _ hn (by simp only [lvS]; omega)) (.ret _)
    | stat =>
      simp only [lvS] at hf
      have r1 : ∀ acc o m, m + 1 ≤ n → En (stQ f (.br [84, 72, 69, 78] acc) o) m := fun acc o m hm => ih (.br [84, 72, 69, 78] acc) o m (by show _ ≠ _; decide) (by simp only [lvS]; omega)
      have r2 : ∀ acc o m, m + 1 ≤ n → En (stQ f (.br [68, 79] acc) o) m := fun acc o m hm => ih (.br [68, 79] acc) o m (by show _ ≠ _; decide) (by simp only [lvS]; omega)
      have q1 := fun acc o => ok_st f (.br [84, 72, 69, 78] acc) o (by show _ ≠ _; decide)
      have q2 := fun acc o => ok_st f (.br [68, 79] acc) o (by show _ ≠ _; decide)
      have else1 : ∀ (l : Nd) (o : Nat), OkP (eatW [69, 76, 83, 69] (fun _ => .look fun z => (stQ f (.block []) o).bind fun y => .ret (lst (l.kids ++ [blkN z.p y]))) (.ret l)) := fun l o => .eatW (by decide) (fun _ => .look fun _ => .bind (kb _ _) fun _ => .ret _) (.ret _)
      have else2 : ∀ (l : Nd) (o : Nat), En (eatW [69, 76, 83, 69] (fun _ => .look fun z => (stQ f (.block []) o).bind fun y => .ret (lst (l.kids ++ [blkN z.p y]))) (.ret l)) (n - 1) := fun l o => .eatW (by decide) (fun _ => .look fun _ => .bind (kb _ _) (ib _ _ _ (by omega)) fun _ => .ret _) (.ret _)
      have by1 : ∀ (a c : Nd) (o : Nat), OkP (eatW [66, 89] (fun _ => (exprQ o).bind fun d => .ret (lst [a, c, d])) (.ret (lst [a, c]))) := fun a c o => .eatW (by decide) (fun _ => .bind (ok_expr _) fun _ => .ret _) (.ret _)
      have by2 : ∀ (a c : Nd) (o m : Nat), En (eatW [66, 89] (fun _ => (exprQ o).bind fun d => .ret (lst [a, c, d])) (.ret (lst [a, c]))) m := fun a c o m => .eatW (by decide) (fun _ => .bind (ok_expr _) (en_expr _ _) fun _ => .ret _) (.ret _)
      simp only [stQ]
      refine .look fun z => .seeK (.bind (ok_desig _) (en_desig _ _) fun d => .eatW (by decide) (fun _ => .bind (ok_expr _) (en_expr _ _) fun _ => .ret _) (.ret _)) (.opn (by decide) (fun x => .bind (q1 _ _) (r1 _ _ _ (by omega)) fun l => .bind (else1 _ _) (else2 _ _) fun _ => en_must (by decide) fun _ => .ret _) ?_)
      refine .opn (by decide) (fun x => .bind (q2 _ _) (r2 _ _ _ (by omega)) fun l => en_must (by decide) fun _ => .ret _) ?_
      refine .opn (by decide) (fun x => .look fun z => .bind (kb _ _) (ib _ _ _ (by omega)) fun l => en_must (by decide) fun _ => .bind (ok_expr _) (en_expr _ _) fun _ => .ret _) ?_
      refine .opn (by decide) (fun x => en_name fun z => en_must (by decide) fun _ => .bind (ok_expr _) (en_expr _ _) fun a => en_must (by decide) fun _ => .bind (ok_expr _) (en_expr _ _) fun c => .bind (by1 _ _ _) (by2 _ _ _ _) fun l => en_must (by decide) fun _ => .look fun u => .bind (kb _ _) (ib _ _ _ (by omega)) fun _ => en_must (by decide) fun _ => .ret _) (.fail (by decide))
theorem ok_block (o : Nat) : OkP (blockQ o) := .len fun n => .look fun z => .bind (ok_st _ _ o trivial) fun _ => .ret _
theorem en_block (o n : Nat) : En (blockQ o) n := .len fun m _ => .look fun z => .bind (ok_st _ _ o trivial) (en_st _ _ o m trivial (by simp only [lvS]; omega)) fun _ => .ret _
theorem ok_typed {k : Int} {i t : Pg Nd} (hi : OkP i) (ht : OkP t) : OkP (typedQ k i t) := .look fun _ => .len fun n => .bind (ok_row (by decide) hi _ _) fun _ => .bind (.must (by decide)) fun _ => .bind ht fun _ => .ret _
/-- .. where the type's fuel is enough behind a token. -/
theorem en_typed {k : Int} {i t : Pg Nd} (hi : OkP i) (ht : OkP t) {n : Nat} (h1 : ∀ n, En i n) (h2 : En t (n - 1)) : En (typedQ k i t) n := .look fun _ => .len fun m hm => .bind (ok_row (by decide) hi _ _) (en_row (by decide) hi _ _ _ (h1 _) (by omega)) fun _ => en_must (by decide) fun _ => .bind ht (h2.mono (by omega)) fun _ => .ret _
theorem ok_ty : ∀ (f : Nat) (ny : NY) (o : Nat), OkP (tyQ f ny o) := by
  intro f
  induction f with
  | zero => intro ny o; cases ny <;> exact .out
  | succ f ih =>
    intro ny o
    cases ny with
    | type =>
      exact .look fun _ => .seeW (ih _ _) <| .opn (by decide) (fun _ => .bind (.eatW (by decide) (fun _ => .bind .name fun _ => .bind (.must (by decide)) fun _ => .ret _) (.ret _)) fun _ => .bind (.seeW (.ret _) (.len fun _ => ok_row (by decide) (ok_typed (ok_named _) (ih _ _)) _ _)) fun _ => .bind (.must (by decide)) fun _ => .ret _) <|
        .eatW (by decide) (fun _ => .bind (.must (by decide)) fun _ => .bind (ok_named _) fun _ => .ret _) (ok_named _)
    | arr p =>
      simp only [tyQ]
      split
      · exact .fail _
      · exact .eat (fun x h => by simpa using h) (fun _ => .bind (ok_expr _) fun _ => .bind (.seeW (ih _ _) (.bind (.must (by decide)) fun _ => ih _ _)) fun _ => .ret _) (.fail _)
def lvY : NY → Nat
  | .type => 2
  | .arr _ => 1
theorem en_ty : ∀ (f : Nat) (ny : NY) (o n : Nat), n * 4 + lvY ny ≤ f → En (tyQ f ny o) n := by
  intro f
  induction f with
  | zero => intro ny o n hf; cases ny <;> simp [lvY] at hf
  | succ f ih =>
    intro ny o n hf
    by_cases h0 : n = 0
    · subst h0; exact .zero _
    cases ny with
    | type =>
      simp only [lvY] at hf
      have it : ∀ o m, m + 1 ≤ n → En (tyQ f .type o) m := fun o m hm => ih _ o m (by simp only [lvY]; omega)
      have kr : ∀ o n, OkP (rowQ [59] (typedQ 14 (namedQ 9) (tyQ f .type o)) n []) := fun o n => ok_row (by decide) (ok_typed (ok_named _) (ok_ty _ _ _)) _ _
      have er : ∀ o m, m ≤ n - 1 → En (rowQ [59] (typedQ 14 (namedQ 9) (tyQ f .type o)) (m + 1) []) m := fun o m hm => en_row (by decide) (ok_typed (ok_named _) (ok_ty _ _ _)) _ _ _ (en_typed (ok_named _) (ok_ty _ _ _) (fun _ => en_named _ _) (it _ _ (by omega))) (Nat.le_refl _)
      have kb : OkP (eatW [40] (fun _ => nameQ.bind fun z => (mustP [41]).bind fun _ => .ret z) (.ret (⟨0, [], 0, 0⟩ : Tok))) := .eatW (by decide) (fun _ => .bind .name fun _ => .bind (.must (by decide)) fun _ => .ret _) (.ret _)
      have eb : En (eatW [40] (fun _ => nameQ.bind fun z => (mustP [41]).bind fun _ => .ret z) (.ret (⟨0, [], 0, 0⟩ : Tok))) (n - 1) := .eatW (by decide) (fun _ => en_name fun _ => en_must (by decide) fun _ => .ret _) (.ret _)
      have rc : ∀ x : Tok, En ((eatW [40] (fun _ => nameQ.bind fun z => (mustP [41]).bind fun _ => .ret z) (.ret (⟨0, [], 0, 0⟩ : Tok))).bind fun z => (seeW [69, 78, 68] (.ret (lst [])) (.len fun n => rowQ [59] (typedQ 14 (namedQ 9) (tyQ f .type (o + 1))) (n + 1) [])).bind fun l => (mustP [69, 78, 68]).bind fun _ => .ret (Nd.mk 13 z.t 0 false l.kids x.p)) (n - 1) := fun x =>
        .bind kb eb fun z => .bind (.seeW (.ret _) (.len fun _ => kr _ _)) (.seeW (.ret _) (.len fun m hm => er _ m hm)) fun _ => en_must (by decide) fun _ => .ret _
      simp only [tyQ]
      refine .look fun _ => .seeW (ih _ _ _ (by simp only [lvY]; omega)) (.opn (by decide) rc ?_)
      exact .eatW (by decide) (fun _ => en_must (by decide) fun _ => .bind (ok_named _) (en_named _ _) fun _ => .ret _) (en_named _ _)
    | arr p =>
      simp only [lvY] at hf
      simp only [tyQ]
      split
      · exact .fail (by decide)
      · exact .eat (fun x h => by simpa using h) (fun _ => .bind (ok_expr _) (en_expr _ _) fun _ => .bind (.seeW (ok_ty _ _ _) (.bind (.must (by decide)) fun _ => ok_ty _ _ _)) (.seeW (ih _ _ _ (by simp only [lvY]; omega)) (en_must (by decide) fun _ => ih _ _ _ (by simp only [lvY]; omega))) fun _ => .ret _) (.fail (by decide))
theorem ok_type (o : Nat) : OkP (typeQ o) := .len fun _ => ok_ty _ _ _
theorem en_type (o n : Nat) : En (typeQ o) n := .len fun m _ => en_ty _ _ _ _ (by simp only [lvY]; omega)
theorem ok_const (o : Nat) : OkP (constQ o) := .bind (ok_marked _) fun _ => .bind (.must (by decide)) fun _ => .bind (ok_expr _) fun _ => .ret _
theorem en_const (o n : Nat) : En (constQ o) n := .bind (ok_marked _) (en_marked _ _) fun _ => en_must (by decide) fun _ => .bind (ok_expr _) (en_expr _ _) fun _ => .ret _
theorem ok_tname (o : Nat) : OkP (tnameQ o) := .bind (ok_named _) fun _ => .bind (.must (by decide)) fun _ => .bind (ok_type _) fun _ => .ret _
theorem en_tname (o n : Nat) : En (tnameQ o) n := .bind (ok_named _) (en_named _ _) fun _ => en_must (by decide) fun _ => .bind (ok_type _) (en_type _ _) fun _ => .ret _
theorem ok_vars (o : Nat) : OkP (varsQ o) := ok_typed (ok_marked _) (ok_type _)
theorem en_vars (o n : Nat) : En (varsQ o) n := en_typed (ok_marked _) (ok_type _) (fun _ => en_marked _ _) (en_type _ _)
theorem ok_ptype : OkP ptypeQ := .look fun _ => .eatW (by decide) (fun _ => .bind (.must (by decide)) fun _ => .bind (ok_named _) fun _ => .ret _) (ok_named _)
theorem en_ptype (n : Nat) : En ptypeQ n := .look fun _ => .eatW (by decide) (fun _ => en_must (by decide) fun _ => .bind (ok_named _) (en_named _ _) fun _ => .ret _) (en_named _ _)
theorem ok_param : OkP paramQ := .look fun _ => .bind (.eatW (by decide) (fun _ => .ret _) (.ret _)) fun _ => .bind (ok_typed (ok_named _) ok_ptype) fun _ => .ret _
theorem en_param (n : Nat) : En paramQ n := .look fun _ => .bind (.eatW (by decide) (fun _ => .ret _) (.ret _)) (.eatW (by decide) (fun _ => .ret _) (.ret _)) fun _ => .bind (ok_typed (ok_named _) ok_ptype) (en_typed (ok_named _) ok_ptype (fun _ => en_named _ _) (en_ptype _)) fun _ => .ret _
theorem ok_head : OkP headQ := .len fun n => .eatW (by decide) (fun _ => .bind (.seeW (.ret _) (ok_row (by decide) ok_param _ _)) fun _ => .bind (.must (by decide)) fun _ => .eatW (by decide) (fun _ => .bind (ok_named _) fun _ => .ret _) (.ret _)) (.ret _)
theorem en_head (n : Nat) : En headQ n := .len fun m _ => .eatW (by decide) (fun _ => .bind (.seeW (.ret _) (ok_row (by decide) ok_param _ _)) (.seeW (.ret _) (en_row (by decide) ok_param _ _ _ (en_param _) (by omega))) fun _ => en_must (by decide) fun _ => .eatW (by decide) (fun _ => .bind (ok_named _) (en_named _ _) fun _ => .ret _) (.ret _)) (.ret _)
theorem ok_end (x : Bs) : OkP (endQ x) := .bind (.must (by decide)) fun _ => .look fun z => by split; exact .fail _; exact .name
theorem en_end (x : Bs) (n : Nat) : En (endQ x) n := en_must (by decide) fun _ => .look fun z => by split; exact .fail (by decide); exact .name
theorem ok_body (o : Nat) (l : List Nd) : OkP (bodyQ o l) := .eatW (by decide) (fun _ => .bind (ok_block _) fun _ => .ret _) (.ret _)
theorem en_body (o : Nat) (l : List Nd) (n : Nat) : En (bodyQ o l) n := .eatW (by decide) (fun _ => .bind (ok_block _) (en_block _ _) fun _ => .ret _) (.ret _)
theorem ok_proc (o : Nat) : OkP (procQ o) := .bind (.must (by decide)) fun _ => .bind (ok_marked _) fun n => .bind ok_head fun _ => .bind (.must (by decide)) fun _ => .bind (ok_sect (by decide) (ok_const _)) fun _ => .bind (ok_sect (by decide) (ok_vars _)) fun _ => .bind (ok_body _ _) fun _ => .bind (.look fun _ => .eatW (by decide) (fun _ => .bind (ok_expr _) fun _ => .ret _) (.ret _)) fun _ => by cases n; exact .bind (ok_end _) fun _ => .ret _
theorem en_proc (o n : Nat) : En (procQ o) n := en_must (by decide) fun _ => .bind (ok_marked _) (en_marked _ _) fun n => .bind ok_head (en_head _) fun _ => en_must (by decide) fun _ => .bind (ok_sect (by decide) (ok_const _)) (en_sect (by decide) (ok_const _) (en_const _) _) fun _ => .bind (ok_sect (by decide) (ok_vars _)) (en_sect (by decide) (ok_vars _) (en_vars _) _) fun _ => .bind (ok_body _ _) (en_body _ _ _) fun _ => .bind (.look fun _ => .eatW (by decide) (fun _ => .bind (ok_expr _) fun _ => .ret _) (.ret _)) (.look fun _ => .eatW (by decide) (fun _ => .bind (ok_expr _) (en_expr _ _) fun _ => .ret _) (.ret _)) fun _ => by cases n; exact .bind (ok_end _) (en_end _ _) fun _ => .ret _
theorem ok_procs : ∀ f acc, OkP (procsQ f acc) := by
  intro f
  induction f with
  | zero => intro acc; exact .out
  | succ f ih => intro acc; exact .seeW (.bind (ok_proc _) fun _ => .bind (.must (by decide)) fun _ => ih _) (.ret _)
theorem en_procs : ∀ f n acc, n + 1 ≤ f → En (procsQ f acc) n := by
  intro f
  induction f with
  | zero => intro n acc hf; omega
  | succ f ih =>
    intro n acc hf
    by_cases h0 : n = 0
    · subst h0; exact .zero _
    exact .seeW (.bind (ok_proc _) (en_proc _ _) fun _ => en_must (by decide) fun _ => ih _ _ (by omega)) (.ret _)
theorem ok_module : OkP moduleQ := .bind (.must (by decide)) fun _ => .bind .name fun _ => .bind (.must (by decide)) fun _ => .bind (.len fun _ => .eatW (by decide) (fun _ => .bind (ok_row (by decide) (ok_named _) _ _) fun _ => .bind (.must (by decide)) fun _ => .ret _) (.ret _)) fun _ => .bind (ok_sect (by decide) (ok_const _)) fun _ => .bind (ok_sect (by decide) (ok_tname _)) fun _ => .bind (ok_sect (by decide) (ok_vars _)) fun _ => .bind (.len fun _ => ok_procs _ _) fun _ => .bind (ok_body _ _) fun _ => .bind (ok_end _) fun _ => .bind (.must (by decide)) fun _ => .ret _
theorem en_module (n : Nat) : En moduleQ n := en_must (by decide) fun _ => en_name fun _ => en_must (by decide) fun _ => .bind (.len fun _ => .eatW (by decide) (fun _ => .bind (ok_row (by decide) (ok_named _) _ _) fun _ => .bind (.must (by decide)) fun _ => .ret _) (.ret _)) (.len fun m _ => .eatW (by decide) (fun _ => .bind (ok_row (by decide) (ok_named _) _ _) (en_row (by decide) (ok_named _) _ _ _ (en_named _ _) (by omega)) fun _ => en_must (by decide) fun _ => .ret _) (.ret _)) fun _ => .bind (ok_sect (by decide) (ok_const _)) (en_sect (by decide) (ok_const _) (en_const _) _) fun _ => .bind (ok_sect (by decide) (ok_tname _)) (en_sect (by decide) (ok_tname _) (en_tname _) _) fun _ => .bind (ok_sect (by decide) (ok_vars _)) (en_sect (by decide) (ok_vars _) (en_vars _) _) fun _ => .bind (.len fun _ => ok_procs _ _) (.len fun m _ => en_procs _ _ _ (by omega)) fun _ => .bind (ok_body _ _) (en_body _ _ _) fun _ => .bind (ok_end _) (en_end _ _) fun _ => en_must (by decide) fun _ => .ret _
end Go.Proofs.YtllhcjmabhempaaDoor

namespace Go.Proofs.YtllhcjmabhempaaDoor
set_option linter.unusedVariables false
set_option linter.unusedSimpArgs false

section
variable {Pl : Nat → Nat → Prop} (h0 : Pl 0 0)
include h0
theorem pl_expr {ex : Bool} (o : Nat) : PL (TkL ex Pl) (NdL Pl) (exprQ o) (exprQ o) := .len fun n n' => pl_run h0 _ _ _ _ o .expr
theorem pl_desig {ex : Bool} (o : Nat) : PL (TkL ex Pl) (NdL Pl) (desigQ o) (desigQ o) := .len fun n n' => pl_run h0 _ _ _ _ o .desig
omit h0 in
theorem pl_named (k : Int) : PL (TkL false Pl) (NdL Pl) (namedQ k) (namedQ k) := .bind .name fun x x' hx => by rw [hx.t]; exact .ret (.mk _ _ _ _ hx.p .nil)
omit h0 in
theorem pl_marked (k : Int) : PL (TkL false Pl) (NdL Pl) (markedQ k) (markedQ k) := .bind .name fun x x' hx => by rw [hx.t]; exact .eatW (by decide) (by simp) (fun _ _ _ => .ret (.mk _ _ _ _ hx.p .nil)) (.ret (.mk _ _ _ _ hx.p .nil))
theorem pl_row {s : Bs} (hs : s ≠ []) {part part' : Pg Nd} (h : PL (TkL false Pl) (NdL Pl) part part') : ∀ f f' acc acc', NdsL Pl acc acc' → PL (TkL false Pl) (NdL Pl) (rowQ s part f acc) (rowQ s part' f' acc') := by
  intro f
  induction f with
  | zero => intro f' acc acc' _; exact .outL _
  | succ f ih =>
    intro f' acc acc' ha
    cases f' with
    | zero => exact .outR _
    | succ f' => exact .bind h fun x x' hx => .eatW hs (by simp) (fun _ _ _ => ih f' _ _ (ha.app (.one hx))) (.ret (.lst h0 (ha.app (.one hx))))
theorem pl_many {part part' : Pg Nd} (h : PL (TkL false Pl) (NdL Pl) part part') : ∀ f f' acc acc', NdsL Pl acc acc' → PL (TkL false Pl) (NdL Pl) (manyQ part f acc) (manyQ part' f' acc') := by
  intro f
  induction f with
  | zero => intro f' acc acc' _; exact .outL _
  | succ f ih =>
    intro f' acc acc' ha
    cases f' with
    | zero => exact .outR _
    | succ f' => exact .seeK (by decide) (by decide) (.bind h fun x x' hx => .bind (.must (by decide) (by simp)) fun _ _ _ => ih f' _ _ (ha.app (.one hx))) (.ret (.lst h0 ha))
theorem pl_sect {key : Bs} (hk : key ≠ []) {part part' : Pg Nd} (h : PL (TkL false Pl) (NdL Pl) part part') : PL (TkL false Pl) (NdL Pl) (sectQ key part) (sectQ key part') := .len fun n n' => .eatW hk (by simp) (fun _ _ _ => pl_many h0 h _ _ _ _ .nil) (.ret (.lst h0 .nil))
omit h0 in
theorem blk_alike {p p' : Nat} (hp : Pl p p') {l l' : Nd} (h : NdL Pl l l') : NdL Pl (blkN p l) (blkN p' l') := .mk _ _ _ _ hp h.kids
omit h0 in
theorem begins_alike {x y : Tok} (h : TkL false Pl x y) : begins [x] ↔ begins [y] := by
  obtain ⟨hp, ⟨h1, h2, h3⟩ | ⟨e, _⟩⟩ := h
  · unfold begins wd hd; simp [h1, h2]
  · cases e
inductive NsL (Pl : Nat → Nat → Prop) : NS → NS → Prop
  | block {a a' : List Nd} : NdsL Pl a a' → NsL Pl (.block a) (.block a')
  | stat : NsL Pl .stat .stat
  | br {s : Bs} {a a' : List Nd} : s ≠ [] → NdsL Pl a a' → NsL Pl (.br s a) (.br s a')
theorem pl_st : ∀ (f f' : Nat) (ns ns' : NS) (o : Nat), NsL Pl ns ns' → PL (TkL false Pl) (NdL Pl) (stQ f ns o) (stQ f' ns' o) := by
  intro f
  induction f with
  | zero => intro f' ns ns' o h; cases ns <;> exact .outL _
  | succ f ih =>
    intro f' ns ns' o h
    cases f' with
    | zero => cases ns' <;> exact .outR _
    | succ f' =>
      cases h with
      | block ha =>
        refine .look fun z z' hz => ?_
        have hb := begins_alike hz
        by_cases hc : begins [z]
        · rw [if_pos hc, if_pos (hb.1 hc)]
          exact .bind (ih f' _ _ o .stat) fun x x' hx => .eatW (by decide) (by simp) (fun _ _ _ => ih f' _ _ o (.block (ha.app (.one hx)))) (.ret (.lst h0 (ha.app (.one hx))))
        · rw [if_neg hc, if_neg (fun e => hc (hb.2 e))]
          exact .eatW (by decide) (by simp) (fun _ _ _ => ih f' _ _ o (.block ha)) (.ret (.lst h0 ha))
      | br hs ha => exact .bind (pl_expr h0 o) fun c c' hc => .bind (.must hs (by simp)) fun _ _ _ => .look fun z z' hz => .bind (ih f' _ _ o (.block .nil)) fun l l' hl => .eatW (by decide) (by simp) (fun _ _ _ => ih f' _ _ o (.br hs (ha.app (.cons hc (.one (blk_alike hz.1 hl)))))) (.ret (.lst h0 (ha.app (.cons hc (.one (blk_alike hz.1 hl))))))
      | stat =>
        simp only [stQ]
        refine .look fun z z' hz => .seeK (by decide) (by decide) (.bind (pl_desig h0 o) fun d d' hd => .eatW (by decide) (by simp) (fun _ _ _ => .bind (pl_expr h0 o) fun y y' hy => .ret (.mk _ _ _ _ hz.1 (.cons hd (.one hy)))) (.ret (.mk _ _ _ _ hz.1 (.one hd)))) ?_
        refine .opn (by decide) (by simp) (fun x x' hx => .bind (ih f' _ _ _ (.br (by decide) .nil)) fun l l' hl => .bind (.eatW (by decide) (by simp) (fun _ _ _ => .look fun z z' hz => .bind (ih f' _ _ _ (.block .nil)) fun y y' hy => .ret (.lst h0 (hl.kids.app (.one (blk_alike hz.1 hy))))) (.ret hl)) fun l l' hl => .bind (.must (by decide) (by simp)) fun _ _ _ => .ret (.mk _ _ _ _ hx.p hl.kids)) ?_
        refine .opn (by decide) (by simp) (fun x x' hx => .bind (ih f' _ _ _ (.br (by decide) .nil)) fun l l' hl => .bind (.must (by decide) (by simp)) fun _ _ _ => .ret (.mk _ _ _ _ hx.p hl.kids)) ?_
        refine .opn (by decide) (by simp) (fun x x' hx => .look fun z z' hz => .bind (ih f' _ _ _ (.block .nil)) fun l l' hl => .bind (.must (by decide) (by simp)) fun _ _ _ => .bind (pl_expr h0 _) fun y y' hy => .ret (.mk _ _ _ _ hx.p (.cons (blk_alike hz.1 hl) (.one hy)))) ?_
        refine .opn (by decide) (by simp) (fun x x' hx => .bind .name fun z z' hz => .bind (.must (by decide) (by simp)) fun _ _ _ => .bind (pl_expr h0 _) fun a a' ha => .bind (.must (by decide) (by simp)) fun _ _ _ => .bind (pl_expr h0 _) fun c c' hc => .bind (Q := NdL Pl) (.eatW (by decide) (by simp) (fun _ _ _ => .bind (pl_expr h0 _) fun d d' hd => .ret (.lst h0 (.cons ha (.cons hc (.one hd))))) (.ret (.lst h0 (.cons ha (.one hc))))) fun l l' hl => .bind (.must (by decide) (by simp)) fun _ _ _ => .look fun u u' hu => .bind (ih f' _ _ _ (.block .nil)) fun y y' hy => .bind (.must (by decide) (by simp)) fun _ _ _ => .ret (by rw [hz.t]; exact .mk _ _ _ _ hx.p (hl.kids.app (.one (blk_alike hu.1 hy))))) (.fail _)
theorem pl_block (o : Nat) : PL (TkL false Pl) (NdL Pl) (blockQ o) (blockQ o) := .len fun n n' => .look fun z z' hz => .bind (pl_st h0 _ _ _ _ o (.block .nil)) fun l l' hl => .ret (blk_alike hz.1 hl)
theorem pl_typed {k : Int} {i i' t t' : Pg Nd} (hi : PL (TkL false Pl) (NdL Pl) i i') (ht : PL (TkL false Pl) (NdL Pl) t t') : PL (TkL false Pl) (NdL Pl) (typedQ k i t) (typedQ k i' t') := .look fun z z' hz => .len fun n n' => .bind (pl_row h0 (by decide) hi _ _ _ _ .nil) fun l l' hl => .bind (.must (by decide) (by simp)) fun _ _ _ => .bind ht fun y y' hy => .ret (.mk _ _ _ _ hz.1 (hl.kids.app (.one hy)))
inductive NyL (Pl : Nat → Nat → Prop) : NY → NY → Prop
  | type : NyL Pl .type .type
  | arr {p p' : Nat} : Pl p p' → NyL Pl (.arr p) (.arr p')
theorem pl_ty : ∀ (f f' : Nat) (ny ny' : NY) (o : Nat), NyL Pl ny ny' → PL (TkL false Pl) (NdL Pl) (tyQ f ny o) (tyQ f' ny' o) := by
  intro f
  induction f with
  | zero => intro f' ny ny' o h; cases ny <;> exact .outL _
  | succ f ih =>
    intro f' ny ny' o h
    cases f' with
    | zero => cases ny' <;> exact .outR _
    | succ f' =>
      cases h with
      | type =>
        simp only [tyQ]
        refine .look fun z z' hz => .seeW (by decide) (by simp) (ih f' _ _ o (.arr hz.1)) ?_
        refine .opn (by decide) (by simp) (fun x x' hx => .bind (Q := fun a b => a.t = b.t) (.eatW (by decide) (by simp) (fun _ _ _ => .bind .name fun z z' hz => .bind (.must (by decide) (by simp)) fun _ _ _ => .ret hz.t) (.ret rfl)) fun z z' hz => .bind (.seeW (by decide) (by simp) (.ret (.lst h0 .nil)) (.len fun n n' => pl_row h0 (by decide) (pl_typed h0 (pl_named _) (ih f' _ _ _ .type)) _ _ _ _ .nil)) fun l l' hl => .bind (.must (by decide) (by simp)) fun _ _ _ => .ret (by rw [hz]; exact .mk _ _ _ _ hx.p hl.kids)) ?_
        exact .eatW (by decide) (by simp) (fun _ _ _ => .bind (.must (by decide) (by simp)) fun _ _ _ => .bind (pl_named _) fun y y' hy => .ret (.mk _ _ _ _ hz.1 (.one hy))) (pl_named _)
      | arr hp =>
        simp only [tyQ]
        by_cases ho : o = 24
        · rw [if_pos ho, if_pos ho]; exact .fail _
        · rw [if_neg ho, if_neg ho]
          refine .eat (fun x x' h => ?_) (fun x h => by simpa using h) (fun x h => by simpa using h) (fun x x' _ _ => .bind (pl_expr h0 _) fun y y' hy => .bind (.seeW (by decide) (by simp) (ih f' _ _ _ (.arr hp)) (.bind (.must (by decide) (by simp)) fun _ _ _ => ih f' _ _ _ .type)) fun z z' hz => .ret (.mk _ _ _ _ hp (.cons hy (.one hz)))) (.fail _)
          obtain ⟨_, ⟨h1, _⟩ | ⟨e, _⟩⟩ := h
          · simp [h1]
          · cases e
theorem pl_type (o : Nat) : PL (TkL false Pl) (NdL Pl) (typeQ o) (typeQ o) := .len fun n n' => pl_ty h0 _ _ _ _ o .type
omit h0 in
theorem put_alike {n n' y y' : Nd} (h : NdL Pl n n') (hy : NdL Pl y y') : NdL Pl (putK n y) (putK n' y') := by cases h with | mk k t v f hp _ => exact .mk _ _ _ _ hp (.one hy)
theorem pl_const (o : Nat) : PL (TkL false Pl) (NdL Pl) (constQ o) (constQ o) := .bind (pl_marked _) fun n n' hn => .bind (.must (by decide) (by simp)) fun _ _ _ => .bind (pl_expr h0 _) fun y y' hy => .ret (put_alike hn hy)
theorem pl_tname (o : Nat) : PL (TkL false Pl) (NdL Pl) (tnameQ o) (tnameQ o) := .bind (pl_named _) fun n n' hn => .bind (.must (by decide) (by simp)) fun _ _ _ => .bind (pl_type h0 _) fun y y' hy => .ret (put_alike hn hy)
theorem pl_vars (o : Nat) : PL (TkL false Pl) (NdL Pl) (varsQ o) (varsQ o) := pl_typed h0 (pl_marked _) (pl_type h0 _)
omit h0 in
theorem pl_ptype : PL (TkL false Pl) (NdL Pl) ptypeQ ptypeQ := .look fun z z' hz => .eatW (by decide) (by simp) (fun _ _ _ => .bind (.must (by decide) (by simp)) fun _ _ _ => .bind (pl_named _) fun y y' hy => .ret (.mk _ _ _ _ hz.1 (.one hy))) (pl_named _)
theorem pl_param : PL (TkL false Pl) (NdL Pl) paramQ paramQ := .look fun z z' hz => .bind (Q := Eq) (.eatW (by decide) (by simp) (fun _ _ _ => .ret rfl) (.ret rfl)) fun v v' hv => .bind (pl_typed h0 (pl_named _) pl_ptype) fun n n' hn => .ret (by rw [hv]; exact .mk _ _ _ _ hz.1 hn.kids)
theorem pl_head : PL (TkL false Pl) (NdL Pl) headQ headQ := .len fun n n' => .eatW (by decide) (by simp) (fun _ _ _ => .bind (.seeW (by decide) (by simp) (.ret (.lst h0 .nil)) (pl_row h0 (by decide) (pl_param h0) _ _ _ _ .nil)) fun l l' hl => .bind (.must (by decide) (by simp)) fun _ _ _ => .eatW (by decide) (by simp) (fun _ _ _ => .bind (pl_named _) fun y y' hy => .ret (.lst h0 (hl.kids.app (.one hy)))) (.ret (.lst h0 hl.kids))) (.ret (.lst h0 .nil))
omit h0 in
theorem pl_end (x : Bs) : PL (TkL false Pl) (Tw Pl) (endQ x) (endQ x) := .bind (.must (by decide) (by simp)) fun _ _ _ => .look fun z z' hz => by
  obtain ⟨_, ⟨h1, h2, _⟩ | ⟨e, _⟩⟩ := hz
  · rw [h1, h2]
    split
    · exact .fail _
    · exact .name
  · cases e
theorem pl_body (o : Nat) {l l' : List Nd} (hl : NdsL Pl l l') : PL (TkL false Pl) (NdL Pl) (bodyQ o l) (bodyQ o l') := .eatW (by decide) (by simp) (fun _ _ _ => .bind (pl_block h0 _) fun y y' hy => .ret (.lst h0 (hl.app (.one hy)))) (.ret (.lst h0 hl))
theorem pl_proc (o : Nat) : PL (TkL false Pl) (NdL Pl) (procQ o) (procQ o) := .bind (.must (by decide) (by simp)) fun x x' hx => .bind (pl_marked _) fun n n' hn => .bind (pl_head h0) fun l1 l1' h1 => .bind (.must (by decide) (by simp)) fun _ _ _ => .bind (pl_sect h0 (by decide) (pl_const h0 _)) fun l2 l2' h2 => .bind (pl_sect h0 (by decide) (pl_vars h0 _)) fun l3 l3' h3 => .bind (pl_body h0 _ ((h1.kids.app h2.kids).app h3.kids)) fun l4 l4' h4 => .bind (.look fun z z' hz => .eatW (by decide) (by simp) (fun _ _ _ => .bind (pl_expr h0 _) fun y y' hy => .ret (.lst h0 (h4.kids.app (.one (.mk _ _ _ _ hz.1 (.one hy)))))) (.ret h4)) fun l5 l5' h5 => by
  cases hn with | mk k t v f hp _ => exact .bind (pl_end _) fun _ _ _ => .ret (.mk _ _ _ _ hx.p h5.kids)
theorem pl_procs : ∀ f f' acc acc', NdsL Pl acc acc' → PL (TkL false Pl) (NdL Pl) (procsQ f acc) (procsQ f' acc') := by
  intro f
  induction f with
  | zero => intro f' acc acc' _; exact .outL _
  | succ f ih =>
    intro f' acc acc' ha
    cases f' with
    | zero => exact .outR _
    | succ f' => exact .seeW (by decide) (by simp) (.bind (pl_proc h0 _) fun x x' hx => .bind (.must (by decide) (by simp)) fun _ _ _ => ih f' _ _ (ha.app (.one hx))) (.ret (.lst h0 ha))
theorem pl_module : PL (TkL false Pl) (NdL Pl) moduleQ moduleQ := .bind (.must (by decide) (by simp)) fun x x' hx => .bind .name fun z z' hz => .bind (.must (by decide) (by simp)) fun _ _ _ => .bind (.len fun n n' => .eatW (by decide) (by simp) (fun _ _ _ => .bind (pl_row h0 (by decide) (pl_named _) _ _ _ _ .nil) fun l l' hl => .bind (.must (by decide) (by simp)) fun _ _ _ => .ret hl) (.ret (.lst h0 .nil))) fun l0 l0' g0 => .bind (pl_sect h0 (by decide) (pl_const h0 _)) fun l1 l1' g1 => .bind (pl_sect h0 (by decide) (pl_tname h0 _)) fun l2 l2' g2 => .bind (pl_sect h0 (by decide) (pl_vars h0 _)) fun l3 l3' g3 => .bind (.len fun n n' => pl_procs h0 _ _ _ _ (((g0.kids.app g1.kids).app g2.kids).app g3.kids)) fun l4 l4' g4 => .bind (pl_body h0 _ g4.kids) fun l5 l5' g5 => by
  rw [hz.t]
  exact .bind (pl_end _) fun _ _ _ => .bind (.must (by decide) (by simp)) fun _ _ _ => .ret (.mk _ _ _ _ hx.p g5.kids)
/-- Two modules whose tokens are alike up to a point. -/
theorem module_loc {A A' : List Tok} (B B' : List Tok) (hA : TksL false Pl A A') (hn : A ≠ []) (g1 : GoodT (A ++ B)) (g2 : GoodT (A' ++ B')) :
    (∃ n n' C C', moduleR (A ++ B) = .ok n (C ++ B) ∧ moduleR (A' ++ B') = .ok n' (C' ++ B') ∧ NdL Pl n n' ∧ TksL false Pl C C' ∧ C ≠ [] ∧ C <:+ A) ∨
    (∃ q q' e, moduleR (A ++ B) = .bad q e ∧ moduleR (A' ++ B') = .bad q' e ∧ Pl q q' ∧ q ∈ A.map (·.p)) ∨
    (EscP (moduleR (A ++ B)) B ∧ EscP (moduleR (A' ++ B')) B') := by
  have := loc_exec (pl_module h0) ok_module ok_module B B' hA hn g1 g2
  rw [exec_module, exec_module] at this
  rcases this with h | h | h | h
  · exact .inl h
  · exact .inr (.inl h)
  · exfalso
    have e1 := en_module _ _ g1 (Nat.le_refl _)
    have e2 := en_module _ _ g2 (Nat.le_refl _)
    rw [exec_module] at e1 e2
    exact h.elim e1 e2
  · exact .inr (.inr h)
end
theorem TksL.refl {ex : Bool} : ∀ A, TksL ex Eq A A
  | [] => .nil
  | x :: r => .cons ⟨rfl, .inl ⟨rfl, rfl, rfl⟩⟩ (TksL.refl r)
/-- What can't go on with a token can't, whatever stands behind it. -/
theorem module_stops {A B B' : List Tok} {q : Nat} {e : Int} (hn : A ≠ []) (g1 : GoodT (A ++ B)) (g2 : GoodT (A ++ B')) (h : moduleR (A ++ B) = .bad q e) (he : e ≠ 0) (hq : q ∉ B.map (·.p)) : moduleR (A ++ B') = .bad q e := by
  rcases module_loc (Pl := Eq) rfl B B' (TksL.refl A) hn g1 g2 with ⟨n, n', C, C', h1, _⟩ | ⟨q1, q2, e1, h1, h2, h3, _⟩ | ⟨h1, _⟩
  · rw [h] at h1; cases h1
  · rw [h] at h1; injection h1 with a b; subst a b; rw [h2, ← h3]
  · rw [h] at h1
    rcases h1 with h1 | h1
    · exact absurd h1 hq
    · exact absurd h1.2 he
/-- Places alone make no difference but to places. -/
theorem module_blanks {A A' : List Tok} (hA : TksL false (fun _ _ => True) A A') (g1 : GoodT A) (g2 : GoodT A') :
    (∃ n n' C C', moduleR A = .ok n C ∧ moduleR A' = .ok n' C' ∧ NdL (fun _ _ => True) n n' ∧ TksL false (fun _ _ => True) C C' ∧ C ≠ []) ∨ (∃ q q' e, moduleR A = .bad q e ∧ moduleR A' = .bad q' e) := by
  have := module_loc (Pl := fun _ _ => True) trivial [] [] hA g1.1 (by simpa using g1) (by simpa using g2)
  simp only [List.append_nil] at this
  rcases this with ⟨n, n', C, C', h1, h2, h3, h4, h5, _⟩ | ⟨q, q', e, h1, h2, _⟩ | ⟨h1, h2⟩
  · exact .inl ⟨n, n', C, C', h1, h2, h3, h4, h5⟩
  · exact .inr ⟨q, q', e, h1, h2⟩
  · exfalso
    cases hm : moduleR A with
    | ok n s => rw [hm] at h1; exact h1.1 (List.suffix_nil.1 h1.2)
    | bad p e =>
      rw [hm] at h1
      rcases h1 with h1 | h1
      · simp at h1
      · have e1 := en_module _ _ g1 (Nat.le_refl _)
        rw [exec_module, hm] at e1
        exact e1 (by rw [h1.1, h1.2])
end Go.Proofs.YtllhcjmabhempaaDoor
