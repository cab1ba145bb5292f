/-
  Layer 17: which names files may have: the program's IsName and the document's.
-/
import Derived.Test.YtmjflbleobmjdaaGreatDoorKt
namespace Go.Proofs.YtmjflbleobmjdaaGreatDoor
set_option linter.unusedVariables false
set_option linter.unusedSimpArgs false
open Go.ChangeShapes Go.WideShapes Go.ChangeAt Go.RowKit

def letB (c : Int) : Bool := decide (97 ≤ c) && decide (c ≤ 122) || decide (65 ≤ c) && decide (c ≤ 90)
def othB (c : Int) : Bool := decide (48 ≤ c) && decide (c ≤ 57) || c == 46 || c == 95
def u8I (c : UInt8) : Int := (c.toNat : Int)
theorem hidN {p : Prop} (h : p) : Hid p := h
theorem retN {a b : Bool} (h : a = b) : Ending.returned (.bool a) = .returned (.bool b) := by rw [h]
theorem isLetter_any (c : Int) (w : World) : Calls Tryz.prog 39 #[.int .u8 c] w fun e w' => e = .returned (.bool (letB c)) ∧ w' = w := by
  unfold letB
  cases h1 : decide (97 ≤ c) <;> cases h2 : decide (c ≤ 122) <;> cases h3 : decide (65 ≤ c) <;> cases h4 : decide (c ≤ 90)
  all_goals
    go_enter Tryz.func39, Tryz.ntmps39
    go_wp2
    go_ret
    exact ⟨rfl, rfl⟩
theorem mayStand_any (c : Int) (w : World) : Calls Tryz.prog 40 #[.int .u8 c] w fun e w' => e = .returned (.bool (letB c || othB c)) ∧ w' = w := by
  have L : Hid (∀ X, Calls Tryz.prog 39 #[.int .u8 c] X fun e w' => e = .returned (.bool (letB c)) ∧ w' = X) := fun X => isLetter_any c X
  unfold othB
  generalize letB c = l at L
  cases l <;> cases h1 : decide (48 ≤ c) <;> cases h2 : decide (c ≤ 57) <;> cases h3 : (c == 46) <;> cases h4 : (c == 95)
  all_goals
    go_enter Tryz.func40, Tryz.ntmps40
    go_wp2_with (go_at_call 39; refine (L.out _).mono ?_; rintro e w1 ⟨rfl, hw⟩; obtain rfl := hw.symm)
    go_ret
    exact ⟨rfl, rfl⟩
/-- What may stand at a place of a name. -/
def okAt (i : Nat) (c : Int) : Bool := letB c || (decide (i ≠ 0) && othB c)
def nameL : Nat → List UInt8 → Bool
  | _, [] => true
  | i, c :: r => okAt i (u8I c) && nameL (i + 1) r
def restB (l : List UInt8) : Bool := l.all fun c => letB (u8I c) || othB (u8I c)
/-- May a file have this name? -/
def nameB (s : ByteArray) : Bool := decide (0 < s.size) && decide (s.size ≤ 23) && nameL 0 s.data.toList
theorem nameL_rest : ∀ (l : List UInt8) (i : Nat), i ≠ 0 → nameL i l = restB l
  | [], i, _ => rfl
  | c :: r, i, h => by
    rw [nameL, nameL_rest r (i + 1) (by omega), okAt, decide_eq_true h]
    simp [restB]
theorem byte_at (s : ByteArray) (i : Nat) (h : i < s.size) : s.data.toList.drop i = s[i] :: s.data.toList.drop (i + 1) := by
  have h2 : i < s.data.toList.length := by rw [Array.length_toList]; exact h
  rw [List.drop_eq_getElem_cons h2]
  simp [ByteArray.getElem_eq_getElem_data]
theorem name_head (s : ByteArray) (h : 0 < s.size) : nameL 0 s.data.toList = (letB (u8I s[0]) && restB s.data.toList) := by
  have hb := byte_at s 0 h
  rw [List.drop_zero] at hb
  rw [hb, nameL, nameL_rest _ 1 (by omega)]
  simp only [okAt, restB, List.all_cons]
  generalize letB (u8I s[0]) = b1
  generalize othB (u8I s[0]) = b2
  generalize (List.all _ _) = b3
  cases b1 <;> cases b2 <;> cases b3 <;> rfl
set_option maxHeartbeats 2000000 in
theorem isName_any (s : ByteArray) (w : World) (hs : s.size ≤ 9223372036854775807) : Calls Tryz.prog 18 #[.string s] w fun e w' => e = .returned (.bool (nameB s)) ∧ w' = w := by
  have L : Hid (∀ c X, Calls Tryz.prog 39 #[.int .u8 c] X fun e w' => e = .returned (.bool (letB c)) ∧ w' = X) := fun c X => isLetter_any c X
  have D : Hid (∀ c X, Calls Tryz.prog 40 #[.int .u8 c] X fun e w' => e = .returned (.bool (letB c || othB c)) ∧ w' = X) := fun c X => mayStand_any c X
  by_cases h0 : 0 < s.size
  · have e0 : decide ((s.size : Int) < 1) = false := decide_eq_false (by omega)
    by_cases h1 : s.size ≤ 23
    · have e1 : decide ((23 : Int) < (s.size : Int)) = false := decide_eq_false (by omega)
      have i0 : (0 : Int) < (s.size : Int) := by omega
      have hN : nameB s = (letB (u8I s[0]) && restB s.data.toList) := by
        unfold nameB
        rw [decide_eq_true h0, decide_eq_true h1, name_head s h0]
        simp
      rw [hN]
      clear hN
      cases hl : letB (u8I s[0])
      · have hl2 : letB ((s[0]).toNat : Int) = false := hl
        simp only [Bool.false_and]
        go_enter Tryz.func18, Tryz.ntmps18
        go_wp2_with (go_at_call 39; refine (L.out _ _).mono ?_; rintro e w1 ⟨rfl, hw⟩; rw [hw, hl2]; clear hw)
        go_ret
        exact ⟨rfl, rfl⟩
      · have hl2 : letB ((s[0]).toNat : Int) = true := hl
        simp only [Bool.true_and]
        go_enter Tryz.func18, Tryz.ntmps18
        go_wp2_with (go_at_call 39; refine (L.out _ _).mono ?_; rintro e w1 ⟨rfl, hw⟩; rw [hw, hl2]; clear hw)
        go_loopg [3, 20] s.size (fun gf s3 s20 wx => ∃ i : Nat, s20 = .int .i64 (i : Int) ∧ i + gf = s.size ∧ wx = w ∧ Hid (restB s.data.toList = restB (s.data.toList.drop i)))
        case atStart => exact ⟨0, rfl, by omega, rfl, rfl⟩
        case round =>
          obtain ⟨i, rfl, hi, hww, HR⟩ := hrel
          obtain rfl := hww.symm
          by_cases hlt : i < s.size
          · obtain ⟨g', rfl⟩ : ∃ g', gk = g' + 1 := ⟨gk - 1, by omega⟩
            have d1 : decide ((i : Int) < (s.size : Int)) = true := decide_eq_true (by omega)
            have j0 : (0 : Int) ≤ (i : Int) := by omega
            have j1 : (i : Int) < (s.size : Int) := by omega
            have hr := HR.out
            rw [byte_at s i hlt] at hr
            simp only [restB, List.all_cons] at hr
            cases hA : (letB (u8I s[i]) || othB (u8I s[i]))
            · have hA2 : (letB ((s[i]).toNat : Int) || othB ((s[i]).toNat : Int)) = false := hA
              have HF : Hid (restB s.data.toList = false) := hidN (by rw [hA] at hr; simpa [restB] using hr)
              clear hr HR
              go_wp2_with (go_at_call 40; refine (D.out _ _).mono ?_; rintro e w1 ⟨rfl, hw⟩; rw [hw, hA2]; clear hw)
              go_ret
              exact ⟨retN HF.out.symm, rfl⟩
            · have HF : Hid (restB s.data.toList = restB (s.data.toList.drop (i + 1))) := hidN (by rw [hA] at hr; simpa [restB] using hr)
              have hA2 : (letB ((s[i]).toNat : Int) || othB ((s[i]).toNat : Int)) = true := hA
              clear hr HR
              go_wp2_with (go_at_call 40; refine (D.out _ _).mono ?_; rintro e w1 ⟨rfl, hw⟩; rw [hw, hA2]; clear hw)
              go_roundg g'
              case measure => omega
              case rel => exact ⟨i + 1, by simp, by omega, rfl, HF.out⟩
          · have d1 : decide ((i : Int) < (s.size : Int)) = false := decide_eq_false (by omega)
            have HF : Hid (restB s.data.toList = true) := by
              have := HR.out
              rw [List.drop_of_length_le (by rw [Array.length_toList]; exact Nat.le_of_not_lt hlt)] at this
              exact this
            clear HR
            go_wp2
            go_ret
            exact ⟨retN HF.out.symm, rfl⟩
    · have e1 : decide ((23 : Int) < (s.size : Int)) = true := decide_eq_true (by omega)
      have HF : Hid (nameB s = false) := hidN (by unfold nameB; rw [decide_eq_false h1]; simp)
      go_enter Tryz.func18, Tryz.ntmps18
      go_wp2
      go_ret
      exact ⟨retN HF.out.symm, rfl⟩
  · have e0 : decide ((s.size : Int) < 1) = true := decide_eq_true (by omega)
    have HF : Hid (nameB s = false) := hidN (by unfold nameB; rw [decide_eq_false h0]; simp)
    go_enter Tryz.func18, Tryz.ntmps18
    go_wp2
    go_ret
    exact ⟨retN HF.out.symm, rfl⟩
theorem bytes_empty {s : ByteArray} (h : s.size = 0) : s.toList.isEmpty = true := by
  rw [List.isEmpty_iff_length_eq_zero, ByteArray.toList_eq, Array.length_toList]; exact h
theorem bytes_some {s : ByteArray} (h : 0 < s.size) : s.toList.isEmpty = false := by
  cases hh : s.toList.isEmpty
  · rfl
  · rw [List.isEmpty_iff_length_eq_zero, ByteArray.toList_eq, Array.length_toList] at hh
    have : s.size = 0 := hh
    omega
end Go.Proofs.YtmjflbleobmjdaaGreatDoor
