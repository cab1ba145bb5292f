/-
  Layer 6, plain: words are read from their text as they are. Nothing of the program's run is in this text.
-/
import Derived.Test.YtkidfnhgknkpiaaGreatDoorBk2
namespace Go.Proofs.YtkidfnhgknkpiaaGreatDoor
set_option linter.unusedVariables false
set_option linter.unusedSimpArgs false

theorem hex_at (x : Int) (i : Nat) (h : i < 8) : sB (hexS x 8) i = hdg x (7 - i) := by
  have h2 := hl_get x 8 i h
  have hll := hl_len x 8
  unfold sB hexS strOfNums
  have hb : 0 ≤ hdg x (7 - i) ∧ hdg x (7 - i) ≤ 255 := by
    unfold hdg dg
    split <;> omega
  have hi : i < (hl x 8).length := by rw [hl_len]; exact h
  have e : (hl x 8)[i] = hdg x (7 - i) := by
    rw [List.getD_eq_getElem?_getD, List.getElem?_eq_getElem hi] at h2
    simpa using h2
  simp [List.getElem?_eq_getElem hi, e]
  omega
theorem hex_size (x : Int) : (hexS x 8).size = 8 := (strOfNums_size _).trans (hl_len x 8)
theorem hex_ok (x : Int) : unOK (hexS x 8) = true := by
  unfold unOK
  simp only [decide_eq_true_eq, hex_size]
  refine ⟨by omega, by omega, fun i hi => ?_⟩
  rw [hex_at x i hi]
  exact (dv_dg _ (by omega)).2
theorem hex_val (x : Int) (h0 : 0 ≤ x) (h1 : x ≤ 4294967295) : unV (hexS x 8) = x := by
  have key : ∀ i, i < 8 → unF (hexS x 8) i = x / 2 ^ (4 * i) % 16 := fun i hi => by
    unfold unF
    rw [hex_size, hex_at x _ (by omega), show 7 - (8 - 1 - i) = i by omega]
    unfold hdg
    rw [(dv_dg _ (by omega)).1]
    omega
  rw [unV, hex_ok, if_pos rfl, hex_size]
  simp only [tgv, key 0 (by omega), key 1 (by omega), key 2 (by omega), key 3 (by omega), key 4 (by omega), key 5 (by omega), key 6 (by omega), key 7 (by omega)]
  omega
theorem hex_okL (x : Int) : okL (hexS x 8).data.toList := by
  intro c hc
  obtain ⟨i, hi, rfl⟩ := List.getElem_of_mem hc
  have hs : (hexS x 8).data.toList.length = 8 := by rw [Array.length_toList]; exact hex_size x
  have h2 := hex_at x i (by omega)
  unfold sB at h2
  rw [Array.length_toList] at hi
  rw [Array.getElem?_eq_getElem hi] at h2
  have h3 := (dv_dg (x / 2 ^ (4 * (7 - i)) % 16).toNat (by omega)).2
  unfold hdg at h2
  rw [← h2] at h3
  simp only [isd, decide_eq_true_eq, Option.getD_some] at h3
  simp only [Array.getElem_toList, okc, Bool.or_eq_true, Bool.and_eq_true, decide_eq_true_eq]
  omega
theorem show_back (x a : Int) (h0 : 0 ≤ x) (h1 : x ≤ 4294967295) : (∀ c ∈ showP x a, okl c) ∧ saidP (showP x a) = showP x a ∧ showP x a ≠ [] ∧ wordP (showP x a) a = some x := by
  unfold showP
  split
  · rename_i hok
    have hr : rightB (decI x) = true := by
      have h := hok
      simp only [decOk, Bool.and_eq_true] at h
      simp [decI, hok, h.1]
    have hp : packV (decI x) = x := by
      have h := hok
      simp only [decOk, Bool.and_eq_true, beq_iff_eq] at h
      simp [decI, hok, h.2]
    generalize decI x = i at hr hp
    obtain ⟨s1, s2, s3, s4⟩ := sort_ok hr
    obtain ⟨xs, z, e, hy, hz, hfill⟩ := filled_back a hr
    rw [e]
    obtain ⟨b1, b2, b3, b4⟩ := line_back (nameP i) xs z s3 s2 (hy z (by simp)).2 hy
    refine ⟨b2, b1, by simp, ?_⟩
    unfold wordP
    simp only [b3, b4, if_neg s4, List.getLastD_concat]
    have hi : instrP (nameP i) z = some (baseI i) := by
      unfold instrP
      rw [hz]
      cases hn : numK i with
      | true => rw [hn] at s1; simpa using s1
      | false => rw [hn] at s1; simpa using s1
    rw [hi]
    simp only [Option.bind_some, hfill, hr, if_true, hp]
  · have hx := hex_okL x
    have hne : (hexS x 8).data.toList ≠ [] := fun e => by
      have hs : (hexS x 8).data.toList.length = 8 := by rw [Array.length_toList]; exact hex_size x
      rw [e] at hs; simp at hs
    obtain ⟨b1, b2, b3, b4⟩ := line_back wordT [] (hexS x 8).data.toList (by decide) (by intro c hc; revert hc; revert c; decide) hne (fun y hy => by simp at hy; subst hy; exact ⟨hx, hne⟩)
    rw [List.nil_append, join_one] at b1 b2 b3 b4
    refine ⟨b2, b1, by simp, ?_⟩
    unfold wordP
    simp only [b3, b4, if_true, digitsP, bs_of, hex_ok, hex_val x h0 h1]
theorem parts_lines : ∀ (l : List Int) (k : Nat), (∀ x ∈ l, 0 ≤ x ∧ x ≤ 4294967295) → ∀ ws : List Int, ws.length = k → ∀ n, goP (parts 10 (linesP l k)) n ws = .words (ws ++ l)
  | [], k, _, ws, hk, n => by
    simp [linesP, parts, goP, saidP, cutB, trimP_eq]
  | x :: r, k, h, ws, hk, n => by
    obtain ⟨b1, b2, b3, b4⟩ := show_back x (4 * k) (h x (by simp)).1 (h x (by simp)).2
    have hn : (10 : UInt8) ∉ showP x (4 * k) := fun hm => (okl_not (b1 10 hm)).2 rfl
    rw [linesP, List.append_assoc, List.singleton_append, parts_app _ hn, goP, b2, if_neg b3, hk, b4]
    simp only []
    rw [parts_lines r (k + 1) (fun y hy => h y (by simp [hy])) (ws ++ [x]) (by simp [hk]) (n + 1)]
    simp
theorem text_back (L : List Int) (hL : ∀ x ∈ L, 0 ≤ x ∧ x ≤ 4294967295) (h : textOk L = true) : parseW (textT L) = L ∧ parseN (textT L) = 0 ∧ parseE (textT L) = 0 := by
  have e : textT L = linesP L 0 := by simp [textT, h]
  have hlen : ¬ 65536 < (linesP L 0).length := by
    simp only [textOk, Bool.and_eq_true, decide_eq_true_eq] at h
    omega
  have hg := parts_lines L 0 hL [] rfl 0
  rw [e]
  simp [parseW, parseN, parseE, hlen, hg]
end Go.Proofs.YtkidfnhgknkpiaaGreatDoor
