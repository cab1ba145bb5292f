/-
  The laws' own based and decimals: numbers in digits; and what All makes of them.
-/
import Derived.Test.YtphogfomlmjeiaaDoorDg
import Derived.Test.YtphogfomlmjeiaaDoorSam
namespace Go.Proofs.YtphogfomlmjeiaaDoor
set_option linter.unusedVariables false
set_option linter.unusedSimpArgs false
open Go.ChangeShapes Go.WideShapes Go.ChangeAt Go.RowKit
attribute [local go_sem ↓] loadTk_seal storeTk_seal loadKeys_seal loadSigns_seal
attribute [local go_sem] loadTk_run storeTk_run rowAt_at rowAt_old rowAt_drew rowAt_drewN roomTk_new roomAt_old roomAt_drew roomAt_drewN putTk_new Tk.fold putRow_past rowTk_put size_put putRow_drew putRow_drewN alloc_drewN setCell_drewN Tk.at0 Tk.at1 Tk.at2 Tk.at3 Tk.size Tk.set0 Tk.set1 Tk.set2 Tk.set3 Tk.ne rowAt_set rowAt_far roomAt_far

def tailOk (b n m : Nat) (d : Bs) : Prop := D b n = if m = 0 then d else D b m ++ d
theorem tail_step {b n m : Nat} {d : Bs} (hb : 2 ≤ b) (hm64 : m < 18446744073709551616) (h : (d = [] ∧ m = n) ∨ (0 < m ∧ tailOk b n m d)) : tailOk b n (m / b) (hx (m % b) :: d) := by
  have key : D b m ++ d = if m / b = 0 then hx (m % b) :: d else D b (m / b) ++ (hx (m % b) :: d) := by
    by_cases hm : m < b
    · rw [D_small hm, if_pos (Nat.div_eq_of_lt hm), Nat.mod_eq_of_lt hm]; rfl
    · have : 0 < m / b := Nat.div_pos (by omega) (by omega)
      rw [D_big hb hm hm64, if_neg (by omega)]; simp
  rcases h with ⟨rfl, rfl⟩ | ⟨hm, h⟩
  · rw [List.append_nil] at key; exact key
  · unfold tailOk at h ⊢; rw [h, if_neg (by omega)]; exact key
theorem slice_one (s : ByteArray) (r : Nat) (k : IntKind) (t : ByteArray) (ht : s.extract r (r + 1) = t) (h : r + 1 ≤ s.size) (w : World) : (Instr.slice 9 (.string s) (some (.int k (r : Int))) (some (.int k ((r : Int) + 1))) none).run Tryd.prog w = .ok (.string t) w := by
  rw [run_slice_string w 9 s k k (r : Int) ((r : Int) + 1) Tryd.underlying9 (by omega) (by omega) (by omega), ← ht]
  rfl
theorem hex_one (r : Nat) (h : r < 16) : ({ data := #[48, 49, 50, 51, 52, 53, 54, 55, 56, 57, 65, 66, 67, 68, 69, 70] } : ByteArray).extract r (r + 1) = bs [hx r] := by
  rcases (show r = 0 ∨ r = 1 ∨ r = 2 ∨ r = 3 ∨ r = 4 ∨ r = 5 ∨ r = 6 ∨ r = 7 ∨ r = 8 ∨ r = 9 ∨ r = 10 ∨ r = 11 ∨ r = 12 ∨ r = 13 ∨ r = 14 ∨ r = 15 by omega) with rfl | rfl | rfl | rfl | rfl | rfl | rfl | rfl | rfl | rfl | rfl | rfl | rfl | rfl | rfl | rfl <;> decide
theorem dec_one (r : Nat) (h : r < 10) : ({ data := #[48, 49, 50, 51, 52, 53, 54, 55, 56, 57] } : ByteArray).extract r (r + 1) = bs [hx r] := by
  rcases (show r = 0 ∨ r = 1 ∨ r = 2 ∨ r = 3 ∨ r = 4 ∨ r = 5 ∨ r = 6 ∨ r = 7 ∨ r = 8 ∨ r = 9 by omega) with rfl | rfl | rfl | rfl | rfl | rfl | rfl | rfl | rfl | rfl <;> decide
set_option maxHeartbeats 1000000 in
theorem based_any (n : Nat) (hn : n < 4294967296) (w : World) : Calls Tryd.prog 14 #[.int .u32 (n : Int)] w fun e w' => e = .returned (.string (bs (48 :: D 16 n))) ∧ w' = w := by
  go_enter Tryd.func14, Tryd.ntmps14
  go_wp2
  go_loopg [0, 3] 65 (fun gf s0 s3 wx => ∃ (m : Nat) (d : Bs), wx = w ∧ s0 = .int .u32 (m : Int) ∧ s3 = .string (bs d) ∧ d.length + gf = 65 ∧ m < 16 ^ gf ∧ m < 4294967296 ∧ ((d = [] ∧ m = n) ∨ (d ≠ [] ∧ tailOk 16 n m d)))
  case atStart => exact ⟨n, [], rfl, rfl, rfl, rfl, Nat.lt_of_lt_of_le hn (by decide), hn, .inl ⟨rfl, rfl⟩⟩
  case round =>
    obtain ⟨m, d, hww, rfl, rfl, hdl, hmg, hm, hd⟩ := hrel
    obtain rfl := hww.symm
    have hds : (bs d).size ≤ 65 := by rw [bs_size]; omega
    have goOn : (d = [] ∧ m = n) ∨ (0 < m ∧ tailOk 16 n m d) → 0 < gk → ∃ g' r q : Nat, gk = g' + 1 ∧ r < 16 ∧ (m : Int).tmod 16 = r ∧ (m : Int) % 16 = r ∧ (m : Int).tdiv 16 = q ∧ (m : Int) / 16 = q ∧ q < 16 ^ g' ∧ q < 4294967296 ∧ tailOk 16 n q (hx r :: d) := fun h hp =>
      ⟨gk - 1, m % 16, m / 16, by omega, by omega, by rw [Int.tmod_eq_emod_of_nonneg (by omega)]; omega, by omega, by rw [Int.tdiv_eq_ediv_of_nonneg (by omega)]; omega, by omega, by
        obtain ⟨g', rfl⟩ : ∃ g', gk = g' + 1 := ⟨gk - 1, by omega⟩
        rw [Nat.pow_succ] at hmg; simp; omega, by omega, tail_step (by omega) (by omega) h⟩
    rcases hd with ⟨rfl, rfl⟩ | ⟨hne, ht⟩
    · obtain ⟨g', r, q, rfl, hr, e1, e1', e2, e2', hq1, hq2, hT⟩ := goOn (.inl ⟨rfl, rfl⟩) (by simp at hdl; omega)
      have hem : (bs ([] : Bs)).toList.isEmpty = true := by rw [Lib.toList_data]; rfl
      have hD : ∀ W, (Instr.slice 9 (.string { data := #[48, 49, 50, 51, 52, 53, 54, 55, 56, 57, 65, 66, 67, 68, 69, 70] }) (some (.int .u32 (r : Int))) (some (.int .u32 ((r : Int) + 1))) none).run Tryd.prog W = .ok (.string (bs [hx r])) W := fun W => slice_one _ r .u32 _ (hex_one r hr) (by show r + 1 ≤ 16; omega) W
      obtain ⟨c, hc⟩ : ∃ c, c = hx r := ⟨_, rfl⟩
      rw [← hc] at hD hT
      have HT : Hid _ := hT
      have hz : (bs [c]).size = 1 := by rw [bs_size]; rfl
      have hG : Hid (q < 16 ^ g') := hq1
      clear goOn hT hc hmg hq1
      go_wp2
      go_roundg g'
      case measure => omega
      case rel => exact ⟨q, c :: [], rfl, rfl, congrArg _ (bs_app [c] []), by simp at hdl ⊢; omega, hG.out, hq2, .inr ⟨by simp, HT.out⟩⟩
    · have hem : (bs d).toList.isEmpty = false := by
        rw [Lib.toList_data, bs_data]; cases d with
        | nil => exact absurd rfl hne
        | cons a b => rfl
      by_cases hm0 : 0 < m
      · have hgp : 0 < gk := by
          rcases Nat.eq_zero_or_pos gk with h | h
          · subst h; simp at hmg; omega
          · exact h
        obtain ⟨g', r, q, rfl, hr, e1, e1', e2, e2', hq1, hq2, hT⟩ := goOn (.inr ⟨hm0, ht⟩) hgp
        have hD : ∀ W, (Instr.slice 9 (.string { data := #[48, 49, 50, 51, 52, 53, 54, 55, 56, 57, 65, 66, 67, 68, 69, 70] }) (some (.int .u32 (r : Int))) (some (.int .u32 ((r : Int) + 1))) none).run Tryd.prog W = .ok (.string (bs [hx r])) W := fun W => slice_one _ r .u32 _ (hex_one r hr) (by show r + 1 ≤ 16; omega) W
        obtain ⟨c, hc⟩ : ∃ c, c = hx r := ⟨_, rfl⟩
        rw [← hc] at hD hT
        have HT : Hid _ := hT
        have hz : (bs [c]).size = 1 := by rw [bs_size]; rfl
        have hG : Hid (q < 16 ^ g') := hq1
        have d0 : decide ((0 : Int) < (m : Int)) = true := by simp; omega
        clear goOn hT hc ht hmg hq1
        go_wp2
        go_roundg g'
        case measure => omega
        case rel => exact ⟨q, c :: d, rfl, rfl, congrArg _ (bs_app [c] d), by simp at hdl ⊢; omega, hG.out, hq2, .inr ⟨by simp, HT.out⟩⟩
      · obtain rfl : m = 0 := by omega
        have hf : D 16 n = d := by unfold tailOk at ht; rw [ht, if_pos rfl]
        have HF : Hid (D 16 n = d) := hf
        clear goOn hf ht hmg
        go_wp2
        go_ret
        exact ⟨ret_str (by rw [HF.out]; exact bs_app [48] _), rfl⟩
set_option maxHeartbeats 1000000 in
theorem decimals_any (n : Nat) (hn : n < 18446744073709551616) (w : World) : Calls Tryd.prog 15 #[.int .u64 (n : Int)] w fun e w' => e = .returned (.string (bs (D 10 n))) ∧ w' = w := by
  go_enter Tryd.func15, Tryd.ntmps15
  go_wp2
  go_loopg [0, 3] 65 (fun gf s0 s3 wx => ∃ (m : Nat) (d : Bs), wx = w ∧ s0 = .int .u64 (m : Int) ∧ s3 = .string (bs d) ∧ d.length + gf = 65 ∧ m < 10 ^ gf ∧ m < 18446744073709551616 ∧ ((d = [] ∧ m = n) ∨ (d ≠ [] ∧ tailOk 10 n m d)))
  case atStart => exact ⟨n, [], rfl, rfl, rfl, rfl, Nat.lt_of_lt_of_le hn (by decide), hn, .inl ⟨rfl, rfl⟩⟩
  case round =>
    obtain ⟨m, d, hww, rfl, rfl, hdl, hmg, hm, hd⟩ := hrel
    obtain rfl := hww.symm
    have hds : (bs d).size ≤ 65 := by rw [bs_size]; omega
    have goOn : (d = [] ∧ m = n) ∨ (0 < m ∧ tailOk 10 n m d) → 0 < gk → ∃ g' r q : Nat, gk = g' + 1 ∧ r < 10 ∧ (m : Int).tmod 10 = r ∧ (m : Int) % 10 = r ∧ (m : Int).tdiv 10 = q ∧ (m : Int) / 10 = q ∧ q < 10 ^ g' ∧ q < 18446744073709551616 ∧ tailOk 10 n q (hx r :: d) := fun h hp =>
      ⟨gk - 1, m % 10, m / 10, by omega, by omega, by rw [Int.tmod_eq_emod_of_nonneg (by omega)]; omega, by omega, by rw [Int.tdiv_eq_ediv_of_nonneg (by omega)]; omega, by omega, by
        obtain ⟨g', rfl⟩ : ∃ g', gk = g' + 1 := ⟨gk - 1, by omega⟩
        rw [Nat.pow_succ] at hmg; simp; omega, by omega, tail_step (by omega) (by omega) h⟩
    rcases hd with ⟨rfl, rfl⟩ | ⟨hne, ht⟩
    · obtain ⟨g', r, q, rfl, hr, e1, e1', e2, e2', hq1, hq2, hT⟩ := goOn (.inl ⟨rfl, rfl⟩) (by simp at hdl; omega)
      have hem : (bs ([] : Bs)).toList.isEmpty = true := by rw [Lib.toList_data]; rfl
      have hD : ∀ W, (Instr.slice 9 (.string { data := #[48, 49, 50, 51, 52, 53, 54, 55, 56, 57] }) (some (.int .u64 (r : Int))) (some (.int .u64 ((r : Int) + 1))) none).run Tryd.prog W = .ok (.string (bs [hx r])) W := fun W => slice_one _ r .u64 _ (dec_one r hr) (by show r + 1 ≤ 10; omega) W
      obtain ⟨c, hc⟩ : ∃ c, c = hx r := ⟨_, rfl⟩
      rw [← hc] at hD hT
      have HT : Hid _ := hT
      have hz : (bs [c]).size = 1 := by rw [bs_size]; rfl
      have hG : Hid (q < 10 ^ g') := hq1
      clear goOn hT hc hmg hq1
      go_wp2
      go_roundg g'
      case measure => omega
      case rel => exact ⟨q, c :: [], rfl, rfl, congrArg _ (bs_app [c] []), by simp at hdl ⊢; omega, hG.out, hq2, .inr ⟨by simp, HT.out⟩⟩
    · have hem : (bs d).toList.isEmpty = false := by
        rw [Lib.toList_data, bs_data]; cases d with
        | nil => exact absurd rfl hne
        | cons a b => rfl
      by_cases hm0 : 0 < m
      · have hgp : 0 < gk := by
          rcases Nat.eq_zero_or_pos gk with h | h
          · subst h; simp at hmg; omega
          · exact h
        obtain ⟨g', r, q, rfl, hr, e1, e1', e2, e2', hq1, hq2, hT⟩ := goOn (.inr ⟨hm0, ht⟩) hgp
        have hD : ∀ W, (Instr.slice 9 (.string { data := #[48, 49, 50, 51, 52, 53, 54, 55, 56, 57] }) (some (.int .u64 (r : Int))) (some (.int .u64 ((r : Int) + 1))) none).run Tryd.prog W = .ok (.string (bs [hx r])) W := fun W => slice_one _ r .u64 _ (dec_one r hr) (by show r + 1 ≤ 10; omega) W
        obtain ⟨c, hc⟩ : ∃ c, c = hx r := ⟨_, rfl⟩
        rw [← hc] at hD hT
        have HT : Hid _ := hT
        have hz : (bs [c]).size = 1 := by rw [bs_size]; rfl
        have hG : Hid (q < 10 ^ g') := hq1
        have d0 : decide ((0 : Int) < (m : Int)) = true := by simp; omega
        clear goOn hT hc ht hmg hq1
        go_wp2
        go_roundg g'
        case measure => omega
        case rel => exact ⟨q, c :: d, rfl, rfl, congrArg _ (bs_app [c] d), by simp at hdl ⊢; omega, hG.out, hq2, .inr ⟨by simp, HT.out⟩⟩
      · obtain rfl : m = 0 := by omega
        have hf : D 10 n = d := by unfold tailOk at ht; rw [ht, if_pos rfl]
        have HF : Hid (D 10 n = d) := hf
        clear goOn hf ht hmg
        go_wp2
        go_ret
        exact ⟨ret_str (by rw [HF.out]), rfl⟩
end Go.Proofs.YtphogfomlmjeiaaDoor
