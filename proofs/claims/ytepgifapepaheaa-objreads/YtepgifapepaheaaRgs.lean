/-
  Layer 7: whether an object may be: its small questions.
-/
import Derived.Test.YtepgifapepaheaaRobj
namespace Go.Proofs.Ytepgifapepaheaa
set_option linter.unusedVariables false
set_option linter.unusedSimpArgs false
open Go.ChangeShapes Go.WideShapes Go.ChangeAt Go.RowKit

def letB (c : Int) : Bool := decide (97 ≤ c) && decide (c ≤ 122) || decide (65 ≤ c) && decide (c ≤ 90)
def digB (c : Int) : Bool := decide (48 ≤ c) && decide (c ≤ 57)
theorem isLetter_any (c : Int) (w : World) : Calls Try.prog 88 #[.int .u8 c] w fun e w' => e = .returned (.bool (letB c)) ∧ w' = w := by
  unfold letB
  cases h1 : decide (97 ≤ c) <;> cases h2 : decide (c ≤ 122) <;> cases h3 : decide (65 ≤ c) <;> cases h4 : decide (c ≤ 90)
  all_goals
    go_enter Try.func88, Try.ntmps88
    go_wp2
    go_ret
    exact ⟨rfl, rfl⟩
theorem isDigit_any (c : Int) (w : World) : Calls Try.prog 89 #[.int .u8 c] w fun e w' => e = .returned (.bool (digB c)) ∧ w' = w := by
  unfold digB
  cases h1 : decide (48 ≤ c) <;> cases h2 : decide (c ≤ 57)
  all_goals
    go_enter Try.func89, Try.ntmps89
    go_wp2
    go_ret
    exact ⟨rfl, rfl⟩
def fromB (n e : Int) : Bool := decide (0 ≤ n) && decide (n < e)
theorem from0_any (n e : Int) (w : World) : Calls Try.prog 58 #[.int .i64 n, .int .i64 e] w fun r w' => r = .returned (.bool (fromB n e)) ∧ w' = w := by
  unfold fromB
  cases h1 : decide (0 ≤ n) <;> cases h2 : decide (n < e)
  all_goals
    go_enter Try.func58, Try.ntmps58
    go_wp2
    go_ret
    exact ⟨rfl, rfl⟩
theorem oneOf_any (o : Bool) (x y : Int) (w : World) : Calls Try.prog 80 #[.bool o, .int .i64 x, .int .i64 y] w fun r w' => r = .returned (.int .i64 (if o then x else y)) ∧ w' = w := by
  cases o
  all_goals
    go_enter Try.func80, Try.ntmps80
    go_wp2
    go_ret
    exact ⟨rfl, rfl⟩
theorem behind_any (x : Int × Int × Int × Int) (w : World) : Calls Try.prog 70 #[.agg (xEnc x)] w fun r w' => r = .returned (.int .i64 (if x.2.1 = 1 then 0 else 1)) ∧ Below w.heap.size w w' := by
  unfold xEnc
  by_cases h : x.2.1 = 1
  · have d : (x.2.1 == 1) = true := by simpa using h
    rw [if_pos h]
    go_enter Try.func70, Try.ntmps70
    go_wp2
    go_ret
    exact ⟨rfl, by go_grown⟩
  · have d : (x.2.1 == 1) = false := by simpa using h
    rw [if_neg h]
    go_enter Try.func70, Try.ntmps70
    go_wp2
    go_ret
    exact ⟨rfl, by go_grown⟩
def u8I (c : UInt8) : Int := (c.toNat : Int)
def restB (l : List UInt8) : Bool := l.all fun c => letB (u8I c) || digB (u8I c)
def nameB (s : ByteArray) : Bool := decide (0 < s.size) && decide (s.size ≤ 20) && letB (u8I (s.data.toList.headD 0)) && restB s.data.toList
theorem byte_at (s : ByteArray) (i : Nat) (h : i < s.size) : s.data.toList.drop i = s[i] :: s.data.toList.drop (i + 1) := by
  have h2 : i < s.data.toList.length := by rw [Array.length_toList]; exact h
  rw [List.drop_eq_getElem_cons h2]
  simp [ByteArray.getElem_eq_getElem_data]
set_option maxHeartbeats 2000000 in
theorem isName_any (s : ByteArray) (w : World) (hs : s.size ≤ 140737488355328) : Calls Try.prog 77 #[.string s] w fun e w' => e = .returned (.bool (nameB s)) ∧ w' = w := by
  have L : Hid (∀ c X, Calls Try.prog 88 #[.int .u8 c] X fun e w' => e = .returned (.bool (letB c)) ∧ w' = X) := fun c X => isLetter_any c X
  have D : Hid (∀ c X, Calls Try.prog 89 #[.int .u8 c] X fun e w' => e = .returned (.bool (digB c)) ∧ w' = X) := fun c X => isDigit_any c X
  by_cases h0 : 0 < s.size
  · have e0 : decide ((s.size : Int) < 1) = false := decide_eq_false (by omega)
    by_cases h1 : s.size ≤ 20
    · have e1 : decide ((20 : Int) < (s.size : Int)) = false := decide_eq_false (by omega)
      have i0 : (0 : Int) < (s.size : Int) := by omega
      have hb := byte_at s 0 h0
      rw [List.drop_zero] at hb
      have hN : nameB s = (letB (u8I s[0]) && restB s.data.toList) := by
        unfold nameB
        rw [decide_eq_true h0, decide_eq_true h1]
        conv => lhs; rw [hb]
        conv => rhs; rw [hb]
        simp
      rw [hN]
      clear hN hb
      cases hl : letB (u8I s[0])
      · have hl2 : letB ((s[0]).toNat : Int) = false := hl
        simp only [Bool.false_and]
        go_enter Try.func77, Try.ntmps77
        go_wp2_with (go_at_call 88; refine (L.out _ _).mono ?_; rintro e w1 ⟨rfl, hw⟩; rw [hw, hl2]; clear hw)
        go_ret
        exact ⟨rfl, rfl⟩
      · have hl2 : letB ((s[0]).toNat : Int) = true := hl
        simp only [Bool.true_and]
        go_enter Try.func77, Try.ntmps77
        go_wp2_with (go_at_call 88; refine (L.out _ _).mono ?_; rintro e w1 ⟨rfl, hw⟩; rw [hw, hl2]; clear hw)
        go_loopg [3, 20] s.size (fun gf s3 s20 wx => ∃ i : Nat, s20 = .int .i64 (i : Int) ∧ i + gf = s.size ∧ wx = w ∧ Hid (restB s.data.toList = restB (s.data.toList.drop i)))
        case atStart => exact ⟨0, rfl, by omega, rfl, rfl⟩
        case round =>
          obtain ⟨i, rfl, hi, hww, HR⟩ := hrel
          obtain rfl := hww.symm
          by_cases hlt : i < s.size
          · obtain ⟨g', rfl⟩ : ∃ g', gk = g' + 1 := ⟨gk - 1, by omega⟩
            have d1 : decide ((i : Int) < (s.size : Int)) = true := decide_eq_true (by omega)
            have j0 : (0 : Int) ≤ (i : Int) := by omega
            have j1 : (i : Int) < (s.size : Int) := by omega
            have hr := HR.out
            rw [byte_at s i hlt] at hr
            simp only [restB, List.all_cons] at hr
            cases hA : letB (u8I s[i]) <;> cases hD : digB (u8I s[i])
            · have hA2 : letB ((s[i]).toNat : Int) = false := hA
              have hD2 : digB ((s[i]).toNat : Int) = false := hD
              have HF : Hid (restB s.data.toList = false) := hid_of (by rw [hA, hD] at hr; simpa [restB] using hr)
              clear hr HR
              go_wp2_with (first | (go_at_call 88; refine (L.out _ _).mono ?_; rintro e w1 ⟨rfl, hw⟩; rw [hw, hA2]; clear hw) | (go_at_call 89; refine (D.out _ _).mono ?_; rintro e w1 ⟨rfl, hw⟩; rw [hw, hD2]; clear hw))
              go_ret
              exact ⟨ret_bool HF.out.symm, rfl⟩
            all_goals
              have HF : Hid (restB s.data.toList = restB (s.data.toList.drop (i + 1))) := hid_of (by rw [hA, hD] at hr; simpa [restB] using hr)
              clear hr HR
            · have hA2 : letB ((s[i]).toNat : Int) = false := hA
              have hD2 : digB ((s[i]).toNat : Int) = true := hD
              go_wp2_with (first | (go_at_call 88; refine (L.out _ _).mono ?_; rintro e w1 ⟨rfl, hw⟩; rw [hw, hA2]; clear hw) | (go_at_call 89; refine (D.out _ _).mono ?_; rintro e w1 ⟨rfl, hw⟩; rw [hw, hD2]; clear hw))
              go_roundg g'
              case measure => omega
              case rel => exact ⟨i + 1, by simp, by omega, rfl, HF.out⟩
            all_goals
              have hA2 : letB ((s[i]).toNat : Int) = true := hA
              go_wp2_with (go_at_call 88; refine (L.out _ _).mono ?_; rintro e w1 ⟨rfl, hw⟩; rw [hw, hA2]; clear hw)
              go_roundg g'
              case measure => omega
              case rel => exact ⟨i + 1, by simp, by omega, rfl, HF.out⟩
          · have d1 : decide ((i : Int) < (s.size : Int)) = false := decide_eq_false (by omega)
            have HF : Hid (restB s.data.toList = true) := by
              have := HR.out
              rw [List.drop_of_length_le (by rw [Array.length_toList]; exact Nat.le_of_not_lt hlt)] at this
              exact this
            clear HR
            go_wp2
            go_ret
            exact ⟨ret_bool HF.out.symm, rfl⟩
    · have e1 : decide ((20 : Int) < (s.size : Int)) = true := decide_eq_true (by omega)
      have hN : nameB s = false := by unfold nameB; rw [decide_eq_false h1]; simp
      rw [hN]
      go_enter Try.func77, Try.ntmps77
      go_wp2
      go_ret
      exact ⟨rfl, rfl⟩
  · have e0 : decide ((s.size : Int) < 1) = true := decide_eq_true (by omega)
    have hN : nameB s = false := by unfold nameB; rw [decide_eq_false h0]; simp
    rw [hN]
    go_enter Try.func77, Try.ntmps77
    go_wp2
    go_ret
    exact ⟨rfl, rfl⟩
end Go.Proofs.Ytepgifapepaheaa
