/-
  Layer 13, the document's side: names.
-/
import Derived.Test.YtcppgpcgbggdcaaDoorYbd
namespace Go.Proofs.YtcppgpcgbggdcaaDoor
set_option linter.unusedVariables false
set_option linter.unusedSimpArgs false
open Go.ChangeShapes Go.WideShapes Go.ChangeAt Go.RowKit

/-- What may stand at a place of a name. -/
def okAt (i : Nat) (c : Int) : Bool := letB c || (decide (i ≠ 0) && digB c)
def nameL : Nat → List UInt8 → Bool
  | _, [] => true
  | i, c :: r => okAt i (u8I c) && nameL (i + 1) r
theorem nameL_rest : ∀ (l : List UInt8) (i : Nat), i ≠ 0 → nameL i l = restB l
  | [], i, _ => rfl
  | c :: r, i, h => by
    rw [nameL, nameL_rest r (i + 1) (by omega), okAt, decide_eq_true h]
    simp [restB]
theorem nameB_L {s : ByteArray} (h0 : 0 < s.size) (h1 : s.size ≤ 20) : nameB s = nameL 0 s.data.toList := by
  have hb := byte_at s 0 h0
  rw [List.drop_zero] at hb
  unfold nameB
  rw [decide_eq_true h0, decide_eq_true h1, hb, nameL, nameL_rest _ 1 (by omega)]
  simp only [okAt, restB, List.all_cons, List.headD_cons, Bool.true_and]
  generalize letB (u8I s[0]) = b1
  generalize digB (u8I s[0]) = b2
  generalize (List.all _ _) = b3
  cases b1 <;> cases b2 <;> cases b3 <;> rfl
theorem bytes_empty {s : ByteArray} (h : s.size = 0) : s.toList.isEmpty = true := by
  rw [List.isEmpty_iff_length_eq_zero, ByteArray.toList_eq, Array.length_toList]; exact h
theorem bytes_some {s : ByteArray} (h : 0 < s.size) : s.toList.isEmpty = false := by
  cases hh : s.toList.isEmpty
  · rfl
  · rw [List.isEmpty_iff_length_eq_zero, ByteArray.toList_eq, Array.length_toList] at hh
    have : s.size = 0 := hh
    omega
set_option maxHeartbeats 4000000 in
theorem risName_any (s : ByteArray) (w : World) (hs : s.size ≤ 140737488355328) : Calls Tryd.prog 35 #[.string s] w fun e w' => e = .returned (.bool (nameB s)) ∧ w' = w := by
  by_cases h0 : 0 < s.size
  · have e0 := bytes_some h0
    by_cases h1 : s.size ≤ 20
    · have e1 : decide ((20 : Int) < (s.size : Int)) = false := decide_eq_false (by omega)
      have HN : Hid (nameB s = nameL 0 s.data.toList) := nameB_L h0 h1
      go_enter Tryd.func35, Tryd.ntmps35
      go_wp2
      go_loopg [3] s.size (fun gf s3 wx => ∃ i : Nat, s3 = .int .i64 (i : Int) ∧ i + gf = s.size ∧ wx = w ∧ Hid (nameB s = nameL i (s.data.toList.drop i)))
      case atStart => exact ⟨0, rfl, by omega, rfl, HN.out⟩
      case round =>
        obtain ⟨i, rfl, hi, hww, HR⟩ := hrel
        obtain rfl := hww.symm
        clear HN
        by_cases hlt : i < s.size
        · obtain ⟨g', rfl⟩ : ∃ g', gk = g' + 1 := ⟨gk - 1, by omega⟩
          have d1 : decide ((i : Int) < (s.size : Int)) = true := decide_eq_true (by omega)
          have j0 : (0 : Int) ≤ (i : Int) := by omega
          have j1 : (i : Int) < (s.size : Int) := by omega
          have hr := HR.out
          rw [byte_at s i hlt, nameL] at hr
          have HR : Hid (nameB s = (okAt i (u8I s[i]) && nameL (i + 1) (s.data.toList.drop (i + 1)))) := hr
          clear hr
          have hc : ((s[i]).toNat : Int) < 48 ∨ (48 ≤ ((s[i]).toNat : Int) ∧ ((s[i]).toNat : Int) ≤ 57) ∨ (58 ≤ ((s[i]).toNat : Int) ∧ ((s[i]).toNat : Int) ≤ 64) ∨ (65 ≤ ((s[i]).toNat : Int) ∧ ((s[i]).toNat : Int) ≤ 90) ∨ (91 ≤ ((s[i]).toNat : Int) ∧ ((s[i]).toNat : Int) ≤ 96) ∨ (97 ≤ ((s[i]).toNat : Int) ∧ ((s[i]).toNat : Int) ≤ 122) ∨ 122 < ((s[i]).toNat : Int) := by omega
          rcases hc with hc | hc | hc | hc | hc | hc | hc

          · have f0 : decide ((97 : Int) ≤ ((s[i]).toNat : Int)) = false := decide_eq_false (by omega)
            have f1 : decide (((s[i]).toNat : Int) ≤ 122) = true := decide_eq_true (by omega)
            have f2 : decide ((65 : Int) ≤ ((s[i]).toNat : Int)) = false := decide_eq_false (by omega)
            have f3 : decide (((s[i]).toNat : Int) ≤ 90) = true := decide_eq_true (by omega)
            have f4 : decide (((s[i]).toNat : Int) < 48) = true := decide_eq_true (by omega)
            have f5 : decide ((57 : Int) < ((s[i]).toNat : Int)) = false := decide_eq_false (by omega)
            have hl : letB (u8I s[i]) = false := by unfold letB u8I; rw [f0, f1, f2, f3]; rfl
            have hd : digB (u8I s[i]) = false := by unfold digB; unfold u8I; simp only [decide_eq_true_eq, Bool.and_eq_true, Bool.and_eq_false_iff, decide_eq_false_iff_not]; omega
            by_cases hz : i = 0
            · have z : ((i : Int) == 0) = true := by simp; omega
              have HF : Hid (nameB s = false) := hid_of (by have h := HR.out; rw [okAt, hl, hd] at h; simpa using h)
              clear HR hl hd hz
              go_wp2
              all_goals
                go_ret
                exact ⟨ret_bool HF.out.symm, rfl⟩
            · have z : ((i : Int) == 0) = false := by simp; omega
              have HF : Hid (nameB s = false) := hid_of (by have h := HR.out; rw [okAt, hl, hd] at h; simpa using h)
              clear HR hl hd
              go_wp2
              all_goals
                go_ret
                exact ⟨ret_bool HF.out.symm, rfl⟩
          · have f0 : decide ((97 : Int) ≤ ((s[i]).toNat : Int)) = false := decide_eq_false (by omega)
            have f1 : decide (((s[i]).toNat : Int) ≤ 122) = true := decide_eq_true (by omega)
            have f2 : decide ((65 : Int) ≤ ((s[i]).toNat : Int)) = false := decide_eq_false (by omega)
            have f3 : decide (((s[i]).toNat : Int) ≤ 90) = true := decide_eq_true (by omega)
            have f4 : decide (((s[i]).toNat : Int) < 48) = false := decide_eq_false (by omega)
            have f5 : decide ((57 : Int) < ((s[i]).toNat : Int)) = false := decide_eq_false (by omega)
            have hl : letB (u8I s[i]) = false := by unfold letB u8I; rw [f0, f1, f2, f3]; rfl
            have hd : digB (u8I s[i]) = true := by unfold digB; unfold u8I; simp only [decide_eq_true_eq, Bool.and_eq_true, Bool.and_eq_false_iff, decide_eq_false_iff_not]; omega
            by_cases hz : i = 0
            · have z : ((i : Int) == 0) = true := by simp; omega
              have HF : Hid (nameB s = false) := hid_of (by have h := HR.out; rw [okAt, hl, hd] at h; simpa [hz] using h)
              clear HR hl hd hz
              go_wp2
              all_goals
                go_ret
                exact ⟨ret_bool HF.out.symm, rfl⟩
            · have z : ((i : Int) == 0) = false := by simp; omega
              have HF : Hid (nameB s = nameL (i + 1) (s.data.toList.drop (i + 1))) := hid_of (by have h := HR.out; rw [okAt, hl, hd] at h; simpa [hz] using h)
              clear HR hl hd
              go_wp2
              go_roundg g'
              case measure => omega
              case rel => exact ⟨i + 1, by simp, by omega, rfl, HF.out⟩
          · have f0 : decide ((97 : Int) ≤ ((s[i]).toNat : Int)) = false := decide_eq_false (by omega)
            have f1 : decide (((s[i]).toNat : Int) ≤ 122) = true := decide_eq_true (by omega)
            have f2 : decide ((65 : Int) ≤ ((s[i]).toNat : Int)) = false := decide_eq_false (by omega)
            have f3 : decide (((s[i]).toNat : Int) ≤ 90) = true := decide_eq_true (by omega)
            have f4 : decide (((s[i]).toNat : Int) < 48) = false := decide_eq_false (by omega)
            have f5 : decide ((57 : Int) < ((s[i]).toNat : Int)) = true := decide_eq_true (by omega)
            have hl : letB (u8I s[i]) = false := by unfold letB u8I; rw [f0, f1, f2, f3]; rfl
            have hd : digB (u8I s[i]) = false := by unfold digB; unfold u8I; simp only [decide_eq_true_eq, Bool.and_eq_true, Bool.and_eq_false_iff, decide_eq_false_iff_not]; omega
            by_cases hz : i = 0
            · have z : ((i : Int) == 0) = true := by simp; omega
              have HF : Hid (nameB s = false) := hid_of (by have h := HR.out; rw [okAt, hl, hd] at h; simpa using h)
              clear HR hl hd hz
              go_wp2
              all_goals
                go_ret
                exact ⟨ret_bool HF.out.symm, rfl⟩
            · have z : ((i : Int) == 0) = false := by simp; omega
              have HF : Hid (nameB s = false) := hid_of (by have h := HR.out; rw [okAt, hl, hd] at h; simpa using h)
              clear HR hl hd
              go_wp2
              all_goals
                go_ret
                exact ⟨ret_bool HF.out.symm, rfl⟩
          · have f0 : decide ((97 : Int) ≤ ((s[i]).toNat : Int)) = false := decide_eq_false (by omega)
            have f1 : decide (((s[i]).toNat : Int) ≤ 122) = true := decide_eq_true (by omega)
            have f2 : decide ((65 : Int) ≤ ((s[i]).toNat : Int)) = true := decide_eq_true (by omega)
            have f3 : decide (((s[i]).toNat : Int) ≤ 90) = true := decide_eq_true (by omega)
            have f4 : decide (((s[i]).toNat : Int) < 48) = false := decide_eq_false (by omega)
            have f5 : decide ((57 : Int) < ((s[i]).toNat : Int)) = true := decide_eq_true (by omega)
            have hl : letB (u8I s[i]) = true := by unfold letB u8I; rw [f0, f1, f2, f3]; rfl
            have hd : digB (u8I s[i]) = false := by unfold digB; unfold u8I; simp only [decide_eq_true_eq, Bool.and_eq_true, Bool.and_eq_false_iff, decide_eq_false_iff_not]; omega
            by_cases hz : i = 0
            · have z : ((i : Int) == 0) = true := by simp; omega
              have HF : Hid (nameB s = nameL (i + 1) (s.data.toList.drop (i + 1))) := hid_of (by have h := HR.out; rw [okAt, hl, hd] at h; simpa using h)
              clear HR hl hd hz
              go_wp2
              go_roundg g'
              case measure => omega
              case rel => exact ⟨i + 1, by simp, by omega, rfl, HF.out⟩
            · have z : ((i : Int) == 0) = false := by simp; omega
              have HF : Hid (nameB s = nameL (i + 1) (s.data.toList.drop (i + 1))) := hid_of (by have h := HR.out; rw [okAt, hl, hd] at h; simpa [hz] using h)
              clear HR hl hd
              go_wp2
              go_roundg g'
              case measure => omega
              case rel => exact ⟨i + 1, by simp, by omega, rfl, HF.out⟩
          · have f0 : decide ((97 : Int) ≤ ((s[i]).toNat : Int)) = false := decide_eq_false (by omega)
            have f1 : decide (((s[i]).toNat : Int) ≤ 122) = true := decide_eq_true (by omega)
            have f2 : decide ((65 : Int) ≤ ((s[i]).toNat : Int)) = true := decide_eq_true (by omega)
            have f3 : decide (((s[i]).toNat : Int) ≤ 90) = false := decide_eq_false (by omega)
            have f4 : decide (((s[i]).toNat : Int) < 48) = false := decide_eq_false (by omega)
            have f5 : decide ((57 : Int) < ((s[i]).toNat : Int)) = true := decide_eq_true (by omega)
            have hl : letB (u8I s[i]) = false := by unfold letB u8I; rw [f0, f1, f2, f3]; rfl
            have hd : digB (u8I s[i]) = false := by unfold digB; unfold u8I; simp only [decide_eq_true_eq, Bool.and_eq_true, Bool.and_eq_false_iff, decide_eq_false_iff_not]; omega
            by_cases hz : i = 0
            · have z : ((i : Int) == 0) = true := by simp; omega
              have HF : Hid (nameB s = false) := hid_of (by have h := HR.out; rw [okAt, hl, hd] at h; simpa using h)
              clear HR hl hd hz
              go_wp2
              all_goals
                go_ret
                exact ⟨ret_bool HF.out.symm, rfl⟩
            · have z : ((i : Int) == 0) = false := by simp; omega
              have HF : Hid (nameB s = false) := hid_of (by have h := HR.out; rw [okAt, hl, hd] at h; simpa using h)
              clear HR hl hd
              go_wp2
              all_goals
                go_ret
                exact ⟨ret_bool HF.out.symm, rfl⟩
          · have f0 : decide ((97 : Int) ≤ ((s[i]).toNat : Int)) = true := decide_eq_true (by omega)
            have f1 : decide (((s[i]).toNat : Int) ≤ 122) = true := decide_eq_true (by omega)
            have f2 : decide ((65 : Int) ≤ ((s[i]).toNat : Int)) = true := decide_eq_true (by omega)
            have f3 : decide (((s[i]).toNat : Int) ≤ 90) = false := decide_eq_false (by omega)
            have f4 : decide (((s[i]).toNat : Int) < 48) = false := decide_eq_false (by omega)
            have f5 : decide ((57 : Int) < ((s[i]).toNat : Int)) = true := decide_eq_true (by omega)
            have hl : letB (u8I s[i]) = true := by unfold letB u8I; rw [f0, f1, f2, f3]; rfl
            have hd : digB (u8I s[i]) = false := by unfold digB; unfold u8I; simp only [decide_eq_true_eq, Bool.and_eq_true, Bool.and_eq_false_iff, decide_eq_false_iff_not]; omega
            by_cases hz : i = 0
            · have z : ((i : Int) == 0) = true := by simp; omega
              have HF : Hid (nameB s = nameL (i + 1) (s.data.toList.drop (i + 1))) := hid_of (by have h := HR.out; rw [okAt, hl, hd] at h; simpa using h)
              clear HR hl hd hz
              go_wp2
              go_roundg g'
              case measure => omega
              case rel => exact ⟨i + 1, by simp, by omega, rfl, HF.out⟩
            · have z : ((i : Int) == 0) = false := by simp; omega
              have HF : Hid (nameB s = nameL (i + 1) (s.data.toList.drop (i + 1))) := hid_of (by have h := HR.out; rw [okAt, hl, hd] at h; simpa [hz] using h)
              clear HR hl hd
              go_wp2
              go_roundg g'
              case measure => omega
              case rel => exact ⟨i + 1, by simp, by omega, rfl, HF.out⟩
          · have f0 : decide ((97 : Int) ≤ ((s[i]).toNat : Int)) = true := decide_eq_true (by omega)
            have f1 : decide (((s[i]).toNat : Int) ≤ 122) = false := decide_eq_false (by omega)
            have f2 : decide ((65 : Int) ≤ ((s[i]).toNat : Int)) = true := decide_eq_true (by omega)
            have f3 : decide (((s[i]).toNat : Int) ≤ 90) = false := decide_eq_false (by omega)
            have f4 : decide (((s[i]).toNat : Int) < 48) = false := decide_eq_false (by omega)
            have f5 : decide ((57 : Int) < ((s[i]).toNat : Int)) = true := decide_eq_true (by omega)
            have hl : letB (u8I s[i]) = false := by unfold letB u8I; rw [f0, f1, f2, f3]; rfl
            have hd : digB (u8I s[i]) = false := by unfold digB; unfold u8I; simp only [decide_eq_true_eq, Bool.and_eq_true, Bool.and_eq_false_iff, decide_eq_false_iff_not]; omega
            by_cases hz : i = 0
            · have z : ((i : Int) == 0) = true := by simp; omega
              have HF : Hid (nameB s = false) := hid_of (by have h := HR.out; rw [okAt, hl, hd] at h; simpa using h)
              clear HR hl hd hz
              go_wp2
              all_goals
                go_ret
                exact ⟨ret_bool HF.out.symm, rfl⟩
            · have z : ((i : Int) == 0) = false := by simp; omega
              have HF : Hid (nameB s = false) := hid_of (by have h := HR.out; rw [okAt, hl, hd] at h; simpa using h)
              clear HR hl hd
              go_wp2
              all_goals
                go_ret
                exact ⟨ret_bool HF.out.symm, rfl⟩
        · have d1 : decide ((i : Int) < (s.size : Int)) = false := decide_eq_false (by omega)
          have HF : Hid (nameB s = true) := hid_of (by
            have h := HR.out
            have he : s.data.toList.drop i = [] := List.drop_eq_nil_of_le (by rw [Array.length_toList]; exact Nat.le_of_not_lt hlt)
            rw [he, nameL] at h; exact h)
          clear HR
          go_wp2
          go_ret
          exact ⟨ret_bool HF.out.symm, rfl⟩
    · have e1 : decide ((20 : Int) < (s.size : Int)) = true := decide_eq_true (by omega)
      have HF : Hid (nameB s = false) := hid_of (by unfold nameB; rw [decide_eq_false h1]; simp)
      go_enter Tryd.func35, Tryd.ntmps35
      go_wp2
      go_ret
      exact ⟨ret_bool HF.out.symm, rfl⟩
  · have e0 := bytes_empty (s := s) (by omega)
    have HF : Hid (nameB s = false) := hid_of (by unfold nameB; rw [decide_eq_false h0]; simp)
    go_enter Tryd.func35, Tryd.ntmps35
    go_wp2
    go_ret
    exact ⟨ret_bool HF.out.symm, rfl⟩
end Go.Proofs.YtcppgpcgbggdcaaDoor
