/-
  What All makes of numbers in digits: plain; and All's answers of two tokens, and of an error.
-/
import Derived.Test.YtphogfomlmjeiaaDoorBsd
namespace Go.Proofs.YtphogfomlmjeiaaDoor
set_option linter.unusedVariables false
set_option linter.unusedSimpArgs false
open Go.ChangeShapes Go.WideShapes Go.ChangeAt Go.RowKit
attribute [local go_sem ↓] loadTk_seal storeTk_seal loadKeys_seal loadSigns_seal
attribute [local go_sem] loadTk_run storeTk_run rowAt_at rowAt_old rowAt_drew rowAt_drewN roomTk_new roomAt_old roomAt_drew roomAt_drewN putTk_new Tk.fold putRow_past rowTk_put size_put putRow_drew putRow_drewN alloc_drewN setCell_drewN Tk.at0 Tk.at1 Tk.at2 Tk.at3 Tk.size Tk.set0 Tk.set1 Tk.set2 Tk.set3 Tk.ne rowAt_set rowAt_far roomAt_far

theorem hex_word (n : Nat) (x : UInt8) (hx : wch x = true) : ∀ c ∈ 48 :: (D 16 n ++ [x]), wch c = true := by
  intro c hc
  rcases List.mem_cons.1 hc with rfl | hc
  · decide
  · rcases List.mem_append.1 hc with h | h
    · exact dgs_all (b := 16) (by omega) (fun c => wch c = true) (fun d hd => hx_wch hd) 64 n c h
    · simp only [List.mem_singleton] at h; rw [h]; exact hx
theorem num_H (n : Nat) (hn : n < 4294967296) : numP (48 :: (D 16 n ++ [72])) = ⟨3, [], sgnd n, (48 :: (D 16 n ++ [72])).length, 0⟩ := by
  have e1 : (48 :: (D 16 n ++ [72]) : Bs).getLast? = some 72 := List.getLast?_concat (l := 48 :: D 16 n)
  have e2 : (48 :: (D 16 n ++ [72]) : Bs).dropLast = 48 :: D 16 n := List.dropLast_concat (l₁ := 48 :: D 16 n)
  unfold numP
  have hv := valP_D (b := 16) (by omega) (by omega) 4294967295 (by omega) n (by omega)
  rw [if_pos (by omega)] at hv
  rw [if_pos e1, e2, valP_zero _ _ (by omega) (by omega)]
  rw [show (16 : Int) = ((16 : Nat) : Int) from rfl, hv]; rfl
theorem num_X (n : Nat) (hn : n < 4294967296) : numP (48 :: (D 16 n ++ [88])) = if n ≤ 255 then ⟨4, [], n, (48 :: (D 16 n ++ [88])).length, 0⟩ else .bad 82 := by
  have e1 : (48 :: (D 16 n ++ [88]) : Bs).getLast? = some 88 := List.getLast?_concat (l := 48 :: D 16 n)
  have e2 : (48 :: (D 16 n ++ [88]) : Bs).dropLast = 48 :: D 16 n := List.dropLast_concat (l₁ := 48 :: D 16 n)
  unfold numP
  have hv := valP_D (b := 16) (by omega) (by omega) 255 (by omega) n (by omega)
  rw [if_neg (by rw [e1]; simp), if_pos e1, e2, valP_zero _ _ (by omega) (by omega)]
  rw [show (16 : Int) = ((16 : Nat) : Int) from rfl, hv]
  by_cases h : n ≤ 255
  · rw [if_pos h, if_pos (by omega)]; rfl
  · rw [if_neg h, if_neg (by omega)]; rfl
theorem D_last {b : Nat} (hb : 2 ≤ b) (n : Nat) : ∃ d, d < b ∧ (D b n).getLast? = some (hx d) := by
  unfold D; rw [dgs]
  split
  · exact ⟨n, by assumption, rfl⟩
  · exact ⟨n % b, Nat.mod_lt _ (by omega), by simp⟩
theorem D_head {b : Nat} (hb : 2 ≤ b) : ∀ (f n : Nat), 1 ≤ f → n < b ^ f → ∃ d r, d < b ∧ dgs b f n = hx d :: r
  | 0, _, h, _ => by omega
  | f + 1, n, _, hn => by
    rw [dgs]
    split
    · exact ⟨n, [], by assumption, rfl⟩
    · have h1 : n / b < b ^ f := Nat.div_lt_of_lt_mul (by rw [Nat.pow_succ, Nat.mul_comm] at hn; exact hn)
      have hp : 0 < n / b := Nat.div_pos (by omega) (by omega)
      have f1 : 1 ≤ f := by
        rcases Nat.eq_zero_or_pos f with h | h
        · subst h; rw [Nat.pow_zero] at h1; omega
        · exact h
      obtain ⟨d, r, h2, h3⟩ := D_head hb f _ f1 h1
      exact ⟨d, r ++ [hx (n % b)], h2, by rw [h3]; rfl⟩
theorem pad_word (k n : Nat) : ∀ c ∈ List.replicate k 48 ++ D 10 n, dig c = true := by
  intro c hc
  rcases List.mem_append.1 hc with h | h
  · rw [List.eq_of_mem_replicate h]; decide
  · exact dgs_all (b := 10) (by omega) (fun c => dig c = true) (fun d hd => hx_dig hd) 64 n c h
theorem num_D (k n : Nat) (hn : n < 18446744073709551616) : numP (List.replicate k 48 ++ D 10 n) = if n ≤ 2147483647 then ⟨3, [], n, (List.replicate k 48 ++ D 10 n).length, 0⟩ else .bad 82 := by
  obtain ⟨d, hd, hl⟩ := D_last (b := 10) (by omega) n
  have e1 : (List.replicate k 48 ++ D 10 n).getLast? = some (hx d) := by rw [List.getLast?_append, hl]; rfl
  have hh := hx_toNat (d := d) (by omega)
  rw [if_pos hd] at hh
  have n1 : hx d ≠ 72 := fun e => by rw [e] at hh; have : (72 : UInt8).toNat = 72 := rfl; omega
  have n2 : hx d ≠ 88 := fun e => by rw [e] at hh; have : (88 : UInt8).toNat = 88 := rfl; omega
  unfold numP
  have hv := valP_D (b := 10) (by omega) (by omega) 2147483647 (by omega) n hn
  rw [if_neg (by rw [e1]; simpa using n1), if_neg (by rw [e1]; simpa using n2), valP_pad _ _ (by omega) (by omega)]
  rw [show (10 : Int) = ((10 : Nat) : Int) from rfl, hv]
  by_cases h : n ≤ 2147483647
  · rw [if_pos h, if_pos (by omega)]; rfl
  · rw [if_neg h, if_neg (by omega)]; rfl
theorem all_H (n : Nat) (hn : n < 4294967296) : ∃ q, allP (48 :: (D 16 n ++ [72])) = ⟨[⟨3, [], sgnd n, 0⟩, ⟨0, [], 0, q⟩], 0, 0⟩ := by
  have hl := D_len (b := 16) n
  have hw := hex_word n 72 (by decide)
  have hN := num_H n hn
  obtain ⟨h1, _⟩ := num_first (W := 48 :: (D 16 n ++ [72])) rfl (by decide) hw
  obtain ⟨_, g⟩ := goX_num 0 (l := 48 :: (D 16 n ++ [72])) (W := 48 :: (D 16 n ++ [72])) (by rw [h1]; rfl) rfl (by decide) hw
  rw [hN] at g
  exact ⟨_, by rw [allP_goX _ (by simp; omega), g rfl, h1]⟩
theorem all_X (n : Nat) (hn : n < 4294967296) : ∃ q, allP (32 :: 48 :: (D 16 n ++ [88])) = if n ≤ 255 then ⟨[⟨4, [], n, 1⟩, ⟨0, [], 0, q⟩], 0, 0⟩ else ⟨[], 1, 82⟩ := by
  have hl := D_len (b := 16) n
  have hw := hex_word n 88 (by decide)
  have hN := num_X n hn
  obtain ⟨h1, _⟩ := num_first (W := 48 :: (D 16 n ++ [88])) rfl (by decide) hw
  have h2 : skip (32 :: 48 :: (D 16 n ++ [88])) = 1 := by rw [skip_blk (by decide), h1]
  obtain ⟨g1, g2⟩ := goX_num 0 (l := 32 :: 48 :: (D 16 n ++ [88])) (W := 48 :: (D 16 n ++ [88])) (by rw [h2]; rfl) rfl (by decide) hw
  rw [hN] at g1 g2
  refine ⟨0 + (32 :: 48 :: (D 16 n ++ [88])).length, ?_⟩
  rw [allP_goX _ (by simp; omega)]
  by_cases h : n ≤ 255
  · rw [if_pos h] at g2 ⊢
    rw [g2 rfl, h2]
  · rw [if_neg h] at g1 ⊢
    rw [g1 (by simp [Rd.bad]), h2]; rfl
theorem all_D (k n : Nat) (hk : k ≤ 100) (hn : n < 18446744073709551616) : ∃ q, allP (List.replicate k 48 ++ D 10 n) = if n ≤ 2147483647 then ⟨[⟨3, [], n, 0⟩, ⟨0, [], 0, q⟩], 0, 0⟩ else ⟨[], 0, 82⟩ := by
  have hl := D_len (b := 10) n
  have hdg := pad_word k n
  have hw : ∀ x ∈ List.replicate k 48 ++ D 10 n, wch x = true := fun x hx => by simp [wch, hdg x hx]
  have hN := num_D k n hn
  obtain ⟨c, r, hcr⟩ : ∃ c r, List.replicate k 48 ++ D 10 n = c :: r := by
    cases h : List.replicate k 48 ++ D 10 n with
    | nil => exact absurd (List.append_eq_nil_iff.1 h).2 (D_ne n)
    | cons c r => exact ⟨c, r, rfl⟩
  have hd : dig c = true := hdg c (by rw [hcr]; simp)
  have hlen : (List.replicate k 48 ++ D 10 n).length ≤ 16384 := by simp; omega
  generalize List.replicate k 48 ++ D 10 n = L at *
  obtain ⟨h1, _⟩ := num_first hcr hd hw
  obtain ⟨g1, g2⟩ := goX_num 0 (l := L) (W := L) (by rw [h1]; rfl) hcr hd hw
  rw [hN] at g1 g2
  refine ⟨0 + L.length, ?_⟩
  rw [allP_goX _ hlen]
  by_cases h : n ≤ 2147483647
  · rw [if_pos h] at g2 ⊢
    rw [g2 rfl, h1]
  · rw [if_neg h] at g1 ⊢
    rw [g1 (by simp [Rd.bad]), h1]; rfl
/-- All, where two tokens are told. -/
theorem all_two (l : Bs) (t u : Tok) (h : allP l = ⟨[t, u], 0, 0⟩) (w : World) (V : Vars w) : Calls Tryd.prog 8 #[.string (bs l)] w fun e w' => ∃ g c, e = .returned (.tuple #[.slice (some ⟨g, 0, none⟩) 2 c, .int .i64 0, .int .i64 0]) ∧ TkAt w' g 0 t.tk ∧ Below w.heap.size w w' := by
  have hA := all_any l w V
  rw [h] at hA
  refine hA.mono fun e w' ⟨v, he, ho, hb⟩ => ?_
  obtain ⟨g, c, rfl, _, _, ht⟩ := own_at ho (by simp)
  have := ht 0 (by simp)
  exact ⟨g, c, he, by simpa using this, hb⟩
/-- All, where an error is told. -/
theorem all_err (l : Bs) (p : Nat) (x : Int) (h : allP l = ⟨[], p, x⟩) (w : World) (V : Vars w) : Calls Tryd.prog 8 #[.string (bs l)] w fun e w' => ∃ a c, e = .returned (.tuple #[.slice a 0 c, .int .i64 (p : Int), .int .i64 x]) ∧ Below w.heap.size w w' := by
  have hA := all_any l w V
  rw [h] at hA
  refine hA.mono fun e w' ⟨v, he, ho, hb⟩ => ?_
  obtain ⟨a, c, rfl, _⟩ := own_rdt ho (by simp)
  exact ⟨a, c, he, hb⟩
end Go.Proofs.YtphogfomlmjeiaaDoor
