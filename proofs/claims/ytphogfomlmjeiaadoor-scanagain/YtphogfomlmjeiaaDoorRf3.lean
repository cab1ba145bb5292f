/-
  The document's layer 8: hex, based, decimal, quoted, sign.
-/
import Derived.Test.YtphogfomlmjeiaaDoorRf1
import Derived.Test.YtphogfomlmjeiaaDoorTk1
namespace Go.Proofs.YtphogfomlmjeiaaDoor
set_option linter.unusedVariables false
set_option linter.unusedSimpArgs false
open Go.ChangeShapes Go.WideShapes Go.ChangeAt Go.RowKit
attribute [local go_sem ↓] loadTk_seal storeTk_seal loadKeys_seal loadSigns_seal
attribute [local go_sem] loadTk_run storeTk_run rowAt_at rowAt_old rowAt_drew rowAt_drewN roomTk_new roomAt_old roomAt_drew roomAt_drewN putTk_new Tk.fold putRow_past rowTk_put size_put putRow_drew putRow_drewN alloc_drewN setCell_drewN Tk.at0 Tk.at1 Tk.at2 Tk.at3 Tk.size Tk.set0 Tk.set1 Tk.set2 Tk.set3 Tk.ne rowAt_set rowAt_far roomAt_far

def hexL : Bs := [48, 49, 50, 51, 52, 53, 54, 55, 56, 57, 65, 66, 67, 68, 69, 70]
/-- What a digit of base sixteen says; below 0: it is none. -/
def hexV (c : UInt8) : Int := if digV c.toNat < 16 then digV c.toNat else -1
theorem hexL_at (i : Nat) (h : i < 16) : digV ((hexL[i]'h).toNat : Int) = i := by
  rcases (show i = 0 ∨ i = 1 ∨ i = 2 ∨ i = 3 ∨ i = 4 ∨ i = 5 ∨ i = 6 ∨ i = 7 ∨ i = 8 ∨ i = 9 ∨ i = 10 ∨ i = 11 ∨ i = 12 ∨ i = 13 ∨ i = 14 ∨ i = 15 by omega) with rfl | rfl | rfl | rfl | rfl | rfl | rfl | rfl | rfl | rfl | rfl | rfl | rfl | rfl | rfl | rfl <;> rfl
theorem digV_inj {a b : UInt8} (h : digV a.toNat = digV b.toNat) (hb : digV b.toNat < 16) : a = b := by
  apply UInt8.toNat_inj.1
  unfold digV digI at h hb
  simp only [Bool.and_eq_true, decide_eq_true_eq] at h hb
  split at h <;> split at h <;> (try split at h) <;> (try split at h) <;> (try split at hb) <;> (try split at hb) <;> omega
theorem digV_small {c : UInt8} (h : digV c.toNat < 16) : 0 ≤ digV c.toNat := by
  unfold digV at *
  by_cases h1 : digI (c.toNat : Int) = true
  · rw [if_pos h1]; simp [digI] at h1; omega
  · rw [if_neg h1] at *; split <;> omega
theorem rhex_any (c : UInt8) (w : World) : Calls Tryd.prog 51 #[.int .u8 (c.toNat : Int)] w fun e w' => e = .returned (.int .i64 (hexV c)) ∧ w' = w := by
  have hl : (bs hexL).size = 16 := rfl
  go_enter Tryd.func51, Tryd.ntmps51
  go_wp2
  go_loopg [2, 4] 16 (fun gf s2 s4 wx => ∃ i : Nat, s2 = .int .i64 0 ∧ s4 = .int .i64 (i : Int) ∧ i + gf = 16 ∧ wx = w ∧ Hid (∀ j (h : j < 16), j < i → hexL[j]'h ≠ c))
  case atStart => exact ⟨0, rfl, rfl, rfl, rfl, fun j _ h => by omega⟩
  case round =>
    obtain ⟨i, rfl, rfl, hi, hww, HN⟩ := hrel
    obtain rfl := hww.symm
    by_cases hlt : i < 16
    · obtain ⟨g', rfl⟩ : ∃ g', gk = g' + 1 := ⟨gk - 1, by omega⟩
      have d0 : decide ((i : Int) < 16) = true := decide_eq_true (by omega)
      have IX : ∀ W, (Instr.index 9 (.string { data := #[48, 49, 50, 51, 52, 53, 54, 55, 56, 57, 65, 66, 67, 68, 69, 70] }) (.int .i64 (i : Int))).run Tryd.prog W = .ok (.int .u8 ((hexL[i]'hlt).toNat : Int)) W := index_str hexL i hlt (i : Int) rfl
      have hv := hexL_at i hlt
      obtain ⟨x, hx⟩ : ∃ x, hexL[i]'hlt = x := ⟨_, rfl⟩
      rw [hx] at IX hv
      by_cases he : x = c
      · subst he
        have HF : Hid (hexV x = (i : Int)) := by unfold hexV; rw [hv, if_pos (by omega)]; rfl
        clear HN hx hv
        go_wp2
        go_ret
        exact ⟨ret_int HF.out.symm, rfl⟩
      · have ne : ((x.toNat : Int) == (c.toNat : Int)) = false := by
          rw [beq_eq_false_iff_ne]; intro e; exact he (UInt8.toNat_inj.1 (by omega))
        have HM : Hid (∀ j (h : j < 16), j < i + 1 → hexL[j]'h ≠ c) := fun j h hj => by
          by_cases e : j = i
          · subst e; rw [hx]; exact he
          · exact HN.out j h (by omega)
        clear HN hx hv
        go_wp2
        go_roundg g'
        case measure => omega
        case rel => exact ⟨i + 1, rfl, by simp, by omega, rfl, HM⟩
    · have d0 : decide ((i : Int) < 16) = false := decide_eq_false (by omega)
      have HF : Hid (hexV c = -1) := by
        unfold hexV
        by_cases h : digV (c.toNat : Int) < 16
        · exfalso
          have h0 := digV_small h
          obtain ⟨k, hk⟩ : ∃ k : Nat, digV (c.toNat : Int) = k := ⟨(digV (c.toNat : Int)).toNat, by omega⟩
          have hk16 : k < 16 := by omega
          exact HN.out k hk16 (by omega) (digV_inj (by rw [hexL_at k hk16, hk]) h)
        · rw [if_neg h]; rfl
      clear HN
      go_wp2
      go_ret
      exact ⟨ret_int HF.out.symm, rfl⟩
set_option maxHeartbeats 1000000 in
theorem rbased_any (l : Bs) (hl : l.length ≤ 1000000000) (most : Int) (hm0 : 0 ≤ most) (hm1 : most ≤ 4294967295) (w : World) :
    Calls Tryd.prog 46 #[.string (bs l), .int .i64 most] w fun e w' => e = .returned (.tuple #[.int .i64 ((valP 16 most 0 l).getD 0), .bool (valP 16 most 0 l).isSome]) ∧ w' = w := by
  have hz := bs_size l
  obtain ⟨v, hv⟩ : ∃ v, valP 16 most 0 l = v := ⟨_, rfl⟩
  rw [hv]
  go_enter Tryd.func46, Tryd.ntmps46
  go_wp2
  go_loopg [4, 5, 6, 7] l.length (fun gf s4 s5 s6 s7 wx => ∃ (p : Nat) (n : Int), s4 = .int .i64 0 ∧ s5 = .bool false ∧ s6 = .int .i64 n ∧ s7 = .int .i64 (p : Int) ∧ p + gf = l.length ∧ wx = w ∧ 0 ≤ n ∧ n ≤ most ∧ Hid (valP 16 most n (l.drop p) = v))
  case atStart => exact ⟨0, 0, rfl, rfl, rfl, rfl, by omega, rfl, by omega, hm0, hv⟩
  case round =>
    obtain ⟨p, n, rfl, rfl, rfl, rfl, hp, hww, hn0, hn1, HV⟩ := hrel
    obtain rfl := hww.symm
    clear hv
    by_cases hlt : p < l.length
    · obtain ⟨g', rfl⟩ : ∃ g', gk = g' + 1 := ⟨gk - 1, by omega⟩
      have d0 : decide ((p : Int) < (l.length : Int)) = true := decide_eq_true (by omega)
      have IX := index_str l p hlt (p : Int) rfl
      have hV := HV.out
      rw [drop_cons hlt, valP] at hV
      obtain ⟨c, hc⟩ : ∃ c, l[p]'hlt = c := ⟨_, rfl⟩
      rw [hc] at IX hV
      have HX := fun W => rhex_any c W
      have hx : hexV c = if digV c.toNat < 16 then digV c.toNat else -1 := rfl
      have hs := digV_small (c := c)
      obtain ⟨D, hD⟩ : ∃ D, digV (c.toNat : Int) = D := ⟨_, rfl⟩
      rw [hD] at hV hx hs
      clear HV hc hD
      by_cases h1 : (16 : Int) ≤ D
      · rw [if_pos h1] at hV
        rw [if_neg (by omega)] at hx
        rw [hx] at HX
        subst hV
        clear hs hx
        go_wp2_with (go_at_call 51; refine (HX _).mono ?_; rintro e W' ⟨rfl, hw⟩; rw [hw]; clear hw)
        go_ret2
        exact ⟨rfl, rfl⟩
      · rw [if_neg h1] at hV
        rw [if_pos (by omega)] at hx
        rw [hx] at HX
        have hD0 := hs (by omega)
        have g0 : decide (D < 0) = false := decide_eq_false (by omega)
        have hcm : n * 16 + D = 16 * n + D := by omega
        rw [hcm] at hV
        clear hs hx
        by_cases h2 : most < 16 * n + D
        · rw [if_pos h2] at hV
          have g2 : decide (most < 16 * n + D) = true := decide_eq_true h2
          subst hV
          go_wp2_with (go_at_call 51; refine (HX _).mono ?_; rintro e W' ⟨rfl, hw⟩; rw [hw]; clear hw)
          go_ret2
          exact ⟨rfl, rfl⟩
        · rw [if_neg h2] at hV
          have g2 : decide (most < 16 * n + D) = false := decide_eq_false h2
          have HV : Hid (valP 16 most (16 * n + D) (l.drop (p + 1)) = v) := hV
          clear hV
          go_wp2_with (go_at_call 51; refine (HX _).mono ?_; rintro e W' ⟨rfl, hw⟩; rw [hw]; clear hw)
          go_roundg g'
          case measure => omega
          case rel => exact ⟨p + 1, 16 * n + D, rfl, rfl, by simp, by simp, by omega, rfl, by omega, by omega, HV⟩
    · have d0 : decide ((p : Int) < (l.length : Int)) = false := decide_eq_false (by omega)
      have hV := HV.out
      rw [List.drop_of_length_le (by omega), valP] at hV
      subst hV
      clear HV
      go_wp2
      go_ret2
      exact ⟨rfl, rfl⟩
theorem conv_u8_i64 (c : Int) (h0 : 0 ≤ c) (h1 : c < 256) (w : World) : (convert 5 2 (.int .u8 c)).run Tryd.prog w = .ok (.int .i64 c) w := by
  have e : IntKind.i64.wrap c = c := by rw [IntKind.wrap_i64]; omega
  simp [convert, run_underlying Tryd.underlying5, run_underlying Tryd.underlying2, Conv.intToInt, e]
set_option maxHeartbeats 1000000 in
theorem rdecimal_any (l : Bs) (hl : l.length ≤ 1000000000) (w : World) :
    Calls Tryd.prog 47 #[.string (bs l)] w fun e w' => e = .returned (.tuple #[.int .i64 ((valP 10 2147483647 0 l).getD 0), .bool (valP 10 2147483647 0 l).isSome]) ∧ w' = w := by
  have hz := bs_size l
  obtain ⟨v, hv⟩ : ∃ v, valP 10 2147483647 0 l = v := ⟨_, rfl⟩
  rw [hv]
  go_enter Tryd.func47, Tryd.ntmps47
  go_wp2
  go_loopg [2, 3, 4, 5] l.length (fun gf s2 s3 s4 s5 wx => ∃ (p : Nat) (n : Int), s2 = .int .i64 0 ∧ s3 = .bool false ∧ s4 = .int .i64 n ∧ s5 = .int .i64 (p : Int) ∧ p + gf = l.length ∧ wx = w ∧ 0 ≤ n ∧ n ≤ 2147483647 ∧ Hid (valP 10 2147483647 n (l.drop p) = v))
  case atStart => exact ⟨0, 0, rfl, rfl, rfl, rfl, by omega, rfl, by omega, by omega, hv⟩
  case round =>
    obtain ⟨p, n, rfl, rfl, rfl, rfl, hp, hww, hn0, hn1, HV⟩ := hrel
    obtain rfl := hww.symm
    clear hv
    by_cases hlt : p < l.length
    · obtain ⟨g', rfl⟩ : ∃ g', gk = g' + 1 := ⟨gk - 1, by omega⟩
      have d0 : decide ((p : Int) < (l.length : Int)) = true := decide_eq_true (by omega)
      have IX := index_str l p hlt (p : Int) rfl
      have hV := HV.out
      rw [drop_cons hlt, valP] at hV
      obtain ⟨c, hc⟩ : ∃ c, l[p]'hlt = c := ⟨_, rfl⟩
      rw [hc] at IX hV
      have DG := fun W => rdigit_any (c.toNat : Int) W
      have hd : digV (c.toNat : Int) = if digI c.toNat then (c.toNat : Int) - 48 else if 65 ≤ (c.toNat : Int) ∧ (c.toNat : Int) ≤ 70 then (c.toNat : Int) - 55 else 9223372036854775807 := rfl
      clear HV hc
      cases h1 : digI c.toNat
      · rw [h1] at DG hd
        rw [if_neg (by simp)] at hd
        have h10 : (10 : Int) ≤ digV c.toNat := by rw [hd]; split <;> omega
        rw [if_pos h10] at hV
        subst hV
        clear hd h10
        go_wp2_with (go_at_call 38; refine (DG _).mono ?_; rintro e W' ⟨rfl, hw⟩; rw [hw]; clear hw)
        go_ret2
        exact ⟨rfl, rfl⟩
      · rw [h1] at DG hd
        rw [if_pos rfl] at hd
        have hr : 48 ≤ (c.toNat : Int) ∧ (c.toNat : Int) ≤ 57 := by simpa [digI] using h1
        rw [hd, if_neg (by omega)] at hV
        have hcm : n * 10 + ((c.toNat : Int) - 48) = 10 * n + ((c.toNat : Int) - 48) := by omega
        rw [hcm] at hV
        have CV := conv_u8_i64 ((c.toNat : Int) - 48) (by omega) (by omega)
        have kw : IntKind.u8.wrap ((c.toNat : Int) - 48) = (c.toNat : Int) - 48 := by rw [IntKind.wrap_u8]; omega
        clear hd h1
        by_cases h2 : 2147483647 < 10 * n + ((c.toNat : Int) - 48)
        · rw [if_pos h2] at hV
          have g2 : decide (2147483647 < 10 * n + ((c.toNat : Int) - 48)) = true := decide_eq_true h2
          subst hV
          go_wp2_with (go_at_call 38; refine (DG _).mono ?_; rintro e W' ⟨rfl, hw⟩; rw [hw]; clear hw)
          go_ret2
          exact ⟨rfl, rfl⟩
        · rw [if_neg h2] at hV
          have g2 : decide (2147483647 < 10 * n + ((c.toNat : Int) - 48)) = false := decide_eq_false h2
          have HV : Hid (valP 10 2147483647 (10 * n + ((c.toNat : Int) - 48)) (l.drop (p + 1)) = v) := hV
          clear hV
          go_wp2_with (go_at_call 38; refine (DG _).mono ?_; rintro e W' ⟨rfl, hw⟩; rw [hw]; clear hw)
          go_roundg g'
          case measure => omega
          case rel => exact ⟨p + 1, 10 * n + ((c.toNat : Int) - 48), rfl, rfl, by simp, by simp, by omega, rfl, by omega, by omega, HV⟩
    · have d0 : decide ((p : Int) < (l.length : Int)) = false := decide_eq_false (by omega)
      have hV := HV.out
      rw [List.drop_of_length_le (by omega), valP] at hV
      subst hV
      clear HV
      go_wp2
      go_ret2
      exact ⟨rfl, rfl⟩
end Go.Proofs.YtphogfomlmjeiaaDoor
