/-
  The document's layer 6: registers, and the place of a text in a row of texts.
-/
import Derived.Test.YtmldlkcgaepaaaaGreatDoorMD2
import Derived.Test.YtmldlkcgaepaaaaGreatDoorMR1
namespace Go.Proofs.YtmldlkcgaepaaaaGreatDoor
set_option linter.unusedVariables false
set_option linter.unusedSimpArgs false
open Go.ChangeShapes Go.WideShapes Go.ChangeAt Go.RowKit

/-- The register that a text is. -/
def rgD (s : Bs) : Option Int := match s with
  | 82 :: r => if 0 < r.length then (match numD r with
    | some v => if 0 ≤ v ∧ v ≤ 15 then some v else none
    | none => none) else none
  | _ => none
/-- What its first answer is. -/
def rgV (s : Bs) : Int := match s with
  | 82 :: r => if 0 < r.length then (numD r).getD 0 else 0
  | _ => 0
theorem rgV_of {s : Bs} {v : Int} (h : rgD s = some v) : rgV s = v := by
  unfold rgD at h
  unfold rgV
  split at h
  · rename_i r
    by_cases h0 : 0 < r.length
    · rw [if_pos h0] at h ⊢
      split at h
      · rename_i u hu
        split at h
        · injection h with h; rw [hu]; exact h
        · cases h
      · cases h
    · rw [if_neg h0] at h; cases h
  · cases h
set_option maxHeartbeats 1000000 in
set_option maxRecDepth 20000 in
theorem rregister_any (s : Bs) (w : World) (hl : s.length ≤ 9223372036854775806) :
    Calls Tryz.prog 53 #[.string (bs s)] w fun e w' => e = .returned (.tuple #[.int .i64 (rgV s), .bool (rgD s).isSome]) ∧ w' = w := by
  cases s with
  | nil =>
    have hz0 : (bs []).size = 0 := rfl
    go_enter Tryz.func53, Tryz.ntmps53
    go_wp2
    go_ret2
    exact ⟨rfl, rfl⟩
  | cons c r =>
    have hz : (bs (c :: r)).size = r.length + 1 := bs_size _
    have hat : ∀ h, (bs (c :: r))[0]'h = c := fun h => bs_at _ _ h (by simp)
    by_cases h0 : 0 < r.length
    · have hd2 : decide ((r.length : Int) + 1 < 2) = false := by simp; omega
      by_cases h82 : c = 82
      · subst h82
        have hcut : (bs (82 :: r)).extract 1 (r.length + 1) = bs r := by rw [bs_cut]; simp
        have hlr : r.length ≤ 9223372036854775806 := by simp at hl; omega
        have NU : Hid (∀ X, Calls Tryz.prog 54 #[.string (bs r)] X _) := fun X => rnumber_any r X hlr
        have e1 : rgV (82 :: r) = (numD r).getD 0 := by simp [rgV, h0]
        have e2 : (rgD (82 :: r)).isSome = ((numD r).isSome && (decide (0 ≤ (numD r).getD 0) && decide ((numD r).getD 0 ≤ 15))) := by
          simp only [rgD, if_pos h0]
          cases numD r with
          | none => rfl
          | some v =>
            by_cases hv : 0 ≤ v ∧ v ≤ 15
            · simp [hv.1, hv.2]
            · simp only [if_neg hv]
              by_cases h9 : 0 ≤ v
              · have : ¬ v ≤ 15 := fun h8 => hv ⟨h9, h8⟩
                simp [this]
              · simp [h9]
        rw [e1, e2]
        clear e1 e2
        generalize (numD r).getD 0 = v at NU
        cases hs : (numD r).isSome with
        | false =>
          rw [hs] at NU
          go_enter Tryz.func53, Tryz.ntmps53
          go_wp2_with (go_at_call 54; refine (NU.out _).mono ?_; rintro e wz ⟨rfl, hw⟩; obtain rfl := hw.symm; clear hw)
          go_ret2
          exact ⟨rfl, rfl⟩
        | true =>
          rw [hs] at NU
          cases h1 : decide (0 ≤ v) <;> cases h2 : decide (v ≤ 15)
          all_goals
            go_enter Tryz.func53, Tryz.ntmps53
            go_wp2_with (go_at_call 54; refine (NU.out _).mono ?_; rintro e wz ⟨rfl, hw⟩; obtain rfl := hw.symm; clear hw)
            go_ret2
            exact ⟨rfl, rfl⟩
      · have hc : ((c.toNat : Int) != 82) = true := by
          have : c.toNat ≠ 82 := fun e => h82 (UInt8.toNat_inj.1 (by rw [e]; rfl))
          simp; omega
        have e1 : rgV (c :: r) = 0 := by
          unfold rgV
          split
          · rename_i r1 h
            injection h with h1 h2
            exact absurd h1 h82
          · rfl
        have e2 : (rgD (c :: r)).isSome = false := by
          unfold rgD
          split
          · rename_i r1 h
            injection h with h1 h2
            exact absurd h1 h82
          · rfl
        rw [e1, e2]
        go_enter Tryz.func53, Tryz.ntmps53
        go_wp2
        go_ret2
        exact ⟨rfl, rfl⟩
    · have hd2 : decide ((r.length : Int) + 1 < 2) = true := by simp; omega
      obtain rfl : r = [] := List.eq_nil_of_length_eq_zero (by omega)
      have e1 : rgV [c] = 0 := by
        unfold rgV
        split
        · rename_i r1 h
          injection h with h1 h2
          subst h2
          rfl
        · rfl
      have e2 : (rgD [c]).isSome = false := by
        unfold rgD
        split
        · rename_i r1 h
          injection h with h1 h2
          subst h2
          rfl
        · rfl
      rw [e1, e2]
      go_enter Tryz.func53, Tryz.ntmps53
      go_wp2
      go_ret2
      exact ⟨rfl, rfl⟩

/-- The number of a condition, or -1. -/
def cfind (s : Bs) : Nat → Nat → Int
  | 0, _ => -1
  | f + 1, k => if condName k = s then (k : Int) else cfind s f (k + 1)
set_option maxHeartbeats 1000000 in
set_option maxRecDepth 20000 in
theorem rfind_any (s : Bs) (g : Nat) (w : World) (hs : s ≠ []) (hc : ∀ o : Nat, o < 16 → w.cell? ⟨g, o, none⟩ = some (.string (bs (condName o)))) :
    Calls Tryz.prog 51 #[.slice (some ⟨g, 0, none⟩) 16 16, .string (bs s)] w fun e w' => e = .returned (.int .i64 (cfind s 16 0)) ∧ w' = w := by
  have HC : Hid (∀ o : Nat, o < 16 → w.cell? ⟨g, o, none⟩ = some (.string (bs (condName o)))) := hc
  have hne : (bs s).toList.isEmpty = false := by
    rw [Lib.toList_data, bs_data]
    cases s with
    | nil => exact absurd rfl hs
    | cons a b => rfl
  generalize hR : cfind s 16 0 = R
  have HR : Hid (cfind s 16 0 = R) := hR
  clear hc hR
  go_enter Tryz.func51, Tryz.ntmps51
  go_wp2
  go_loopw [5] (fun x wr => ∃ k : Nat, k ≤ 16 ∧ x = .int .i64 k ∧ cfind s (16 - k) k = R ∧ wr = w) (fun x _ => 16 - (intOf x).toNat)
  case atStart => exact ⟨0, by omega, rfl, HR.out, rfl⟩
  case round =>
    obtain ⟨k, hk, rfl, hr, rfl⟩ := hrel
    clear HR
    by_cases hlt : k < 16
    · have hc1 := HC.out k hlt
      have hd : decide ((k : Int) < 16) = true := by simp; omega
      obtain ⟨f, hf⟩ : ∃ f, 16 - k = f + 1 := ⟨15 - k, by omega⟩
      have hf2 : 16 - (k + 1) = f := by omega
      rw [hf, cfind] at hr
      by_cases he : condName k = s
      · rw [if_pos he] at hr
        subst hr
        rw [he] at hc1
        clear hf hf2
        go_wp2
        go_ret
        exact ⟨rfl, rfl⟩
      · rw [if_neg he] at hr
        have heq : ((bs (condName k)).toList == (bs s).toList) = false := by
          rw [Lib.toList_data, Lib.toList_data, bs_data, bs_data]
          simpa using he
        have HH : Hid (cfind s (16 - (k + 1)) (k + 1) = R) := by show _ = R; rw [hf2]; exact hr
        clear hr hf hf2 he
        generalize condName (k : Int) = cn at hc1 heq
        go_wp2
        refine ⟨⟨k + 1, by omega, by go_num, HH.out, trivial⟩, ?_⟩
        simp [intOf]; omega
    · have hd : decide ((k : Int) < 16) = false := by simp; omega
      obtain rfl : k = 16 := by omega
      have hr2 : R = -1 := hr.symm
      subst hr2
      clear hr
      go_wp2
      go_ret
      exact ⟨rfl, rfl⟩
end Go.Proofs.YtmldlkcgaepaaaaGreatDoor
