/-
  Layer 7's texts: what Text, the program's and the document's, reads at any place of any row of bytes.
-/
import Derived.Test.YtcppgpcgbggdcaaDoorNu
namespace Go.Proofs.YtcppgpcgbggdcaaDoor
set_option linter.unusedVariables false
set_option linter.unusedSimpArgs false
open Go.ChangeShapes Go.WideShapes Go.ChangeAt Go.RowKit

theorem rdU_bd (g : Nat → Int) (avail : Nat) : ∀ (k i : Nat) (acc n : Int) (j : Nat), 0 ≤ acc → rdU g avail k i acc = some (n, j) → 0 ≤ n ∧ n ≤ 4294967295 ∧ j ≤ avail
  | 0, i, acc, n, j, _, h => by cases h
  | k + 1, i, acc, n, j, h0, h => by
    rw [rdU] at h
    have hP : 0 ≤ g i % 128 * 128 ^ i := Int.mul_nonneg (by omega) (Int.le_of_lt (Int.pow_pos (by omega)))
    split at h
    · cases h
    · split at h
      · exact rdU_bd g avail k (i + 1) _ n j (by omega) h
      · split at h
        · cases h
        · cases h
          omega
theorem uintR_bd {f : Nat → Int} {len : Nat} {at_ n : Int} {i : Nat} (h : uintR f len at_ = some (n, i)) : 0 ≤ n ∧ n ≤ 4294967295 ∧ 0 ≤ at_ ∧ at_ + i ≤ len := by
  unfold uintR at h
  split at h
  · have := rdU_bd _ _ _ _ _ _ _ (by omega) h
    omega
  · cases h
/-- The text at a place: where it begins, and how long it is. -/
def textR (f : Nat → Int) (len : Nat) (at_ most : Int) : Option (Nat × Nat) :=
  match uintR f len at_ with
  | none => none
  | some (n, i) => if n ≤ most ∧ at_ + i + n ≤ len then some ((at_ + i).toNat, n.toNat) else none
def tS (f : Nat → Int) (r : Option (Nat × Nat)) : ByteArray := match r with | none => ⟨#[]⟩ | some (q, m) => strOfNums (bl (fun j => f (q + j)) m)
def tP (r : Option (Nat × Nat)) : Int := match r with | none => 0 | some (q, m) => ((q + m : Nat) : Int)
def tB (r : Option (Nat × Nat)) : Bool := r.isSome
theorem conv_rd {w : World} {a : Option Addr} {len : Nat} {f : Nat → Int} (cap : Nat) (h : RdB w a len f) : (convert 30 9 (.slice a len cap)).run Tryd.prog w = .ok (.string (strOfNums (bl f len))) w := by
  rcases h.2 with rfl | ⟨b, off, rfl, hc⟩
  · rw [run_convert_bytes_string w _ 9 5 a 0 cap Tryd.underlying30 Tryd.underlying5 Tryd.underlying9]
    cases a <;> simp [Conv.bytesToString, loadCells]
    all_goals rfl
  · exact run_convert_bytes_arg (P := Tryd.prog) w 30 5 Tryd.underlying30 Tryd.underlying5 b off len cap (bl f len) (by simp [bl]) (fun i hi => by rw [(hc i hi).1]; simp [bl, List.getD, hi]) 9 Tryd.underlying9
theorem rd_sub {w : World} {b off len : Nat} {f : Nat → Int} {q m : Nat} (h : RdB w (some ⟨b, off, none⟩) len f) (hq : q + m ≤ len) : RdB w (some ⟨b, off + q, none⟩) m (fun j => f (q + j)) := by
  refine ⟨Nat.le_trans (by omega) h.1, ?_⟩
  by_cases hm : m = 0
  · exact .inl hm
  · rcases h.2 with h0 | ⟨b', off', e, hc⟩
    · omega
    · cases e
      refine .inr ⟨_, _, rfl, fun i hi => ?_⟩
      rw [Nat.add_assoc]
      exact hc (q + i) (by omega)
theorem ret3s {a a' : ByteArray} {b b' : Int} {c c' : Bool} (h : a = a') (g : b = b') (k : c = c') : Ending.returned (.tuple #[.string a, .int .i64 b, .bool c]) = .returned (.tuple #[.string a', .int .i64 b', .bool c']) := by rw [h, g, k]

set_option maxHeartbeats 2000000 in
set_option maxRecDepth 20000 in
theorem text_any (a : Option Addr) (len cap : Nat) (f : Nat → Int) (at_ most : Int) (w : World) (h : Src w a len cap f) (hc : len ≤ cap) (m0 : -9223372036854775808 ≤ most) (m1 : most ≤ 9223372036854775807) :
    Calls Tryd.prog 99 #[.slice a len cap, .int .i64 at_, .int .i64 most] w fun e w' => e = .returned (.tuple #[.string (tS f (textR f len at_ most)), .int .i64 (tP (textR f len at_ most)), .bool (tB (textR f len at_ most))]) ∧ w' = w := by
  have UI := uint_any a len cap f at_ w h hc
  have hfit := h.fit
  cases hR : uintR f len at_ with
  | none =>
    have hT : textR f len at_ most = none := by simp [textR, hR]
    rw [hT]
    rw [hR] at UI
    have HU : Hid (Calls Tryd.prog 101 #[.slice a len cap, .int .i64 at_] w _) := UI
    clear UI hT hR h
    go_enter Tryd.func99, Tryd.ntmps99
    go_wp2_with (go_at_call 101; refine HU.out.mono ?_; rintro e w1 ⟨rfl, rfl⟩; have hb0 : uB (none : Option (Int × Nat)) = false := rfl; rw [hb0])
    go_ret3
    exact ⟨rfl, rfl⟩
  | some x =>
    obtain ⟨n, i⟩ := x
    obtain ⟨n0, n1, at0, hle⟩ := uintR_bd hR
    obtain ⟨p, rfl⟩ := Int.eq_ofNat_of_zero_le at0
    obtain ⟨m, rfl⟩ := Int.eq_ofNat_of_zero_le n0
    rw [hR] at UI
    have e1 : uN (some ((m : Int), i)) = (m : Int) := rfl
    have e2 : uP (p : Int) (some ((m : Int), i)) = ((p + i : Nat) : Int) := by simp [uP]
    have e3 : uB (some ((m : Int), i)) = true := rfl
    rw [e1, e2, e3] at UI
    have hT : textR f len p most = if (m : Int) ≤ most ∧ p + i + m ≤ len then some (p + i, m) else none := by
      simp only [textR, hR]
      by_cases hh : (m : Int) ≤ most ∧ p + i + m ≤ len
      · rw [if_pos hh, if_pos ⟨hh.1, by omega⟩]; congr 2
      · rw [if_neg hh, if_neg (fun h => hh ⟨h.1, by omega⟩)]
    rw [hT]
    have hql : p + i ≤ len := by omega
    generalize p + i = q at UI hT hql
    have HU : Hid (Calls Tryd.prog 101 #[.slice a len cap, .int .i64 p] w _) := UI
    clear UI hT hR e1 e2 e3 hle
    by_cases hm1 : (m : Int) ≤ most
    · have hd1 : decide (most < (m : Int)) = false := by simp; omega
      by_cases hm2 : q + m ≤ len
      · have hd2 : decide ((len : Int) - (q : Int) < (m : Int)) = false := by simp; omega
        rw [if_pos ⟨hm1, hm2⟩]
        by_cases hcq : cap = q
        · subst hcq
          obtain rfl : m = 0 := by omega
          have HV := conv_rd (f := fun j => f (cap + j)) 0 (a := a) (len := 0) (w := w) ⟨by simp [maxLen], .inl rfl⟩
          clear h
          go_enter Tryd.func99, Tryd.ntmps99
          go_wp2_with (go_at_call 101; refine HU.out.mono ?_; rintro e w1 ⟨rfl, rfl⟩)
          go_ret3
          exact ⟨ret3s rfl (by simp [tP]) rfl, rfl⟩
        · by_cases hmz : m = 0
          · subst hmz
            cases a with
            | none => have := h.nil rfl; omega
            | some ad =>
            have HV := conv_rd (f := fun j => f (q + j)) (cap - q) (a := some (ad.add q)) (len := 0) (w := w) ⟨by simp [maxLen], .inl rfl⟩
            clear h
            go_enter Tryd.func99, Tryd.ntmps99
            go_wp2_with (go_at_call 101; refine HU.out.mono ?_; rintro e w1 ⟨rfl, rfl⟩)
            go_ret3
            exact ⟨ret3s rfl (by simp [tP]) rfl, rfl⟩
          · obtain ⟨b, off, rfl⟩ : ∃ b off, a = some ⟨b, off, none⟩ := by
              rcases h.rd.2 with h0 | ⟨b, off, e, _⟩
              · omega
              · exact ⟨b, off, e⟩
            have HV := conv_rd (cap - q) (rd_sub h.rd (q := q) (m := m) hm2)
            clear h
            go_enter Tryd.func99, Tryd.ntmps99
            go_wp2_with (go_at_call 101; refine HU.out.mono ?_; rintro e w1 ⟨rfl, rfl⟩)
            go_ret3
            exact ⟨ret3s rfl (by simp [tP]) rfl, rfl⟩
      · have hd2 : decide ((len : Int) - (q : Int) < (m : Int)) = true := by simp; omega
        rw [if_neg (fun hh => hm2 hh.2)]
        clear h
        go_enter Tryd.func99, Tryd.ntmps99
        go_wp2_with (go_at_call 101; refine HU.out.mono ?_; rintro e w1 ⟨rfl, rfl⟩)
        go_ret3
        exact ⟨rfl, rfl⟩
    · have hd1 : decide (most < (m : Int)) = true := by simp; omega
      rw [if_neg (fun hh => hm1 hh.1)]
      clear h
      go_enter Tryd.func99, Tryd.ntmps99
      go_wp2_with (go_at_call 101; refine HU.out.mono ?_; rintro e w1 ⟨rfl, rfl⟩)
      go_ret3
      exact ⟨rfl, rfl⟩
set_option maxHeartbeats 2000000 in
set_option maxRecDepth 20000 in
theorem rtext_any (a : Option Addr) (len cap : Nat) (f : Nat → Int) (at_ most : Int) (w : World) (h : Src w a len cap f) (hc : len ≤ cap) (m0 : -9223372036854775808 ≤ most) (m1 : most ≤ 9223372036854775807) :
    Calls Tryd.prog 73 #[.slice a len cap, .int .i64 at_, .int .i64 most] w fun e w' => e = .returned (.tuple #[.string (tS f (textR f len at_ most)), .int .i64 (tP (textR f len at_ most)), .bool (tB (textR f len at_ most))]) ∧ w' = w := by
  have UI := number_any a len cap f at_ w h hc
  have hfit := h.fit
  cases hR : uintR f len at_ with
  | none =>
    have hT : textR f len at_ most = none := by simp [textR, hR]
    rw [hT]
    rw [hR] at UI
    have HU : Hid (Calls Tryd.prog 93 #[.slice a len cap, .int .i64 at_] w _) := UI
    clear UI hT hR h
    go_enter Tryd.func73, Tryd.ntmps73
    go_wp2_with (go_at_call 93; refine HU.out.mono ?_; rintro e w1 ⟨rfl, rfl⟩; have hb0 : uB (none : Option (Int × Nat)) = false := rfl; rw [hb0])
    go_ret3
    exact ⟨rfl, rfl⟩
  | some x =>
    obtain ⟨n, i⟩ := x
    obtain ⟨n0, n1, at0, hle⟩ := uintR_bd hR
    obtain ⟨p, rfl⟩ := Int.eq_ofNat_of_zero_le at0
    obtain ⟨m, rfl⟩ := Int.eq_ofNat_of_zero_le n0
    rw [hR] at UI
    have e1 : uN (some ((m : Int), i)) = (m : Int) := rfl
    have e2 : uP (p : Int) (some ((m : Int), i)) = ((p + i : Nat) : Int) := by simp [uP]
    have e3 : uB (some ((m : Int), i)) = true := rfl
    rw [e1, e2, e3] at UI
    have hT : textR f len p most = if (m : Int) ≤ most ∧ p + i + m ≤ len then some (p + i, m) else none := by
      simp only [textR, hR]
      by_cases hh : (m : Int) ≤ most ∧ p + i + m ≤ len
      · rw [if_pos hh, if_pos ⟨hh.1, by omega⟩]; congr 2
      · rw [if_neg hh, if_neg (fun h => hh ⟨h.1, by omega⟩)]
    rw [hT]
    have hql : p + i ≤ len := by omega
    generalize p + i = q at UI hT hql
    have HU : Hid (Calls Tryd.prog 93 #[.slice a len cap, .int .i64 p] w _) := UI
    clear UI hT hR e1 e2 e3 hle
    by_cases hm1 : (m : Int) ≤ most
    · have hd0 : decide (most < 0) = false := by simp; omega
      have hw1 : IntKind.u64.wrap most = most := by rw [wrap_u64]; omega
      have hd1 : decide (most < (m : Int)) = false := by simp; omega
      by_cases hm2 : q + m ≤ len
      · have hw2 : IntKind.u64.wrap ((len : Int) - (q : Int)) = (len : Int) - (q : Int) := by rw [wrap_u64]; omega
        have hd2 : decide ((len : Int) - (q : Int) < (m : Int)) = false := by simp; omega
        rw [if_pos ⟨hm1, hm2⟩]
        by_cases hcq : cap = q
        · subst hcq
          obtain rfl : m = 0 := by omega
          have HV := conv_rd (f := fun j => f (cap + j)) 0 (a := a) (len := 0) (w := w) ⟨by simp [maxLen], .inl rfl⟩
          clear h
          go_enter Tryd.func73, Tryd.ntmps73
          go_wp2_with (go_at_call 93; refine HU.out.mono ?_; rintro e w1 ⟨rfl, rfl⟩)
          go_ret3
          exact ⟨ret3s rfl (by simp [tP]) rfl, rfl⟩
        · by_cases hmz : m = 0
          · subst hmz
            cases a with
            | none => have := h.nil rfl; omega
            | some ad =>
            have HV := conv_rd (f := fun j => f (q + j)) (cap - q) (a := some (ad.add q)) (len := 0) (w := w) ⟨by simp [maxLen], .inl rfl⟩
            clear h
            go_enter Tryd.func73, Tryd.ntmps73
            go_wp2_with (go_at_call 93; refine HU.out.mono ?_; rintro e w1 ⟨rfl, rfl⟩)
            go_ret3
            exact ⟨ret3s rfl (by simp [tP]) rfl, rfl⟩
          · obtain ⟨b, off, rfl⟩ : ∃ b off, a = some ⟨b, off, none⟩ := by
              rcases h.rd.2 with h0 | ⟨b, off, e, _⟩
              · omega
              · exact ⟨b, off, e⟩
            have HV := conv_rd (cap - q) (rd_sub h.rd (q := q) (m := m) hm2)
            clear h
            go_enter Tryd.func73, Tryd.ntmps73
            go_wp2_with (go_at_call 93; refine HU.out.mono ?_; rintro e w1 ⟨rfl, rfl⟩)
            go_ret3
            exact ⟨ret3s rfl (by simp [tP]) rfl, rfl⟩
      · have hw2 : IntKind.u64.wrap ((len : Int) - (q : Int)) = (len : Int) - (q : Int) := by rw [wrap_u64]; omega
        have hd2 : decide ((len : Int) - (q : Int) < (m : Int)) = true := by simp; omega
        rw [if_neg (fun hh => hm2 hh.2)]
        clear h
        go_enter Tryd.func73, Tryd.ntmps73
        go_wp2_with (go_at_call 93; refine HU.out.mono ?_; rintro e w1 ⟨rfl, rfl⟩)
        go_ret3
        exact ⟨rfl, rfl⟩
    · rw [if_neg (fun hh => hm1 hh.1)]
      clear h
      by_cases hneg : most < 0
      · have hd0 : decide (most < 0) = true := by simp; omega
        go_enter Tryd.func73, Tryd.ntmps73
        go_wp2_with (go_at_call 93; refine HU.out.mono ?_; rintro e w1 ⟨rfl, rfl⟩)
        go_ret3
        exact ⟨rfl, rfl⟩
      · have hd0 : decide (most < 0) = false := by simp; omega
        have hw1 : IntKind.u64.wrap most = most := by rw [wrap_u64]; omega
        have hd1 : decide (most < (m : Int)) = true := by simp; omega
        go_enter Tryd.func73, Tryd.ntmps73
        go_wp2_with (go_at_call 93; refine HU.out.mono ?_; rintro e w1 ⟨rfl, rfl⟩)
        go_ret3
        exact ⟨rfl, rfl⟩
end Go.Proofs.YtcppgpcgbggdcaaDoor
