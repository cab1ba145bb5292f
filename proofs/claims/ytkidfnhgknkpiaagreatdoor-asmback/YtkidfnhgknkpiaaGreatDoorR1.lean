/-
  The document's layer 6: digits, reg, marks, last, Names and Conditions: the plain texts.
-/
import Derived.Test.YtkidfnhgknkpiaaGreatDoorSh3
import Derived.Test.YtkidfnhgknkpiaaGreatDoorK1
namespace Go.Proofs.YtkidfnhgknkpiaaGreatDoor
set_option linter.unusedVariables false
set_option linter.unusedSimpArgs false
open Go.ChangeShapes Go.WideShapes Go.ChangeAt Go.RowKit
attribute [local go_sem ↓] loadIn_seal storeIn_seal
attribute [local go_sem] loadIn_run storeIn_run rowAt_at rowAt_old rowAt_drew rowAt_drewN roomCpu_new roomIn_new roomAt_old roomAt_drew roomAt_drewN putCpu_new putIn_new Cp.zero_fold In.fold putRow_past rowCpu_put rowIn_put size_put putRow_drew putRow_drewN alloc_drewN setCell_drewN Cp.at16 Cp.at17 Cp.at18 Cp.at19 Cp.at20 Cp.at21 Cp.size Cp.set16 Cp.set17 Cp.set18 Cp.set19 Cp.set20 Cp.set21 In.at0 In.at1 In.at2 In.at3 In.at4 In.at5 In.at6 In.at7 In.size In.set0 In.set1 In.set2 In.set3 In.ne Cp.ne In.set4 In.set5 In.set6 In.set7

theorem dg_one (r : Nat) (h : r < 10) : ({ data := #[48, 49, 50, 51, 52, 53, 54, 55, 56, 57] } : ByteArray).extract r (r + 1) = bs [UInt8.ofNat (48 + r)] := by
  rcases (show r = 0 ∨ r = 1 ∨ r = 2 ∨ r = 3 ∨ r = 4 ∨ r = 5 ∨ r = 6 ∨ r = 7 ∨ r = 8 ∨ r = 9 by omega) with rfl | rfl | rfl | rfl | rfl | rfl | rfl | rfl | rfl | rfl <;> decide
theorem dec_small (u : Nat) (h : u < 10) : Lib.decDigits u = [UInt8.ofNat (48 + u)] := by rw [Lib.decDigits, dif_pos h]
theorem dec_big (u : Nat) (h : ¬ u < 10) : Lib.decDigits u = Lib.decDigits (u / 10) ++ [UInt8.ofNat (48 + u % 10)] := by rw [Lib.decDigits, dif_neg h]
def tailOk (n m : Nat) (d : Bs) : Prop := Lib.decDigits n = if m = 0 then d else Lib.decDigits m ++ d
theorem tail_step {n m : Nat} {d : Bs} (h : (d = [] ∧ m = n) ∨ (0 < m ∧ tailOk n m d)) : tailOk n (m / 10) (UInt8.ofNat (48 + m % 10) :: d) := by
  have key : Lib.decDigits m ++ d = if m / 10 = 0 then UInt8.ofNat (48 + m % 10) :: d else Lib.decDigits (m / 10) ++ (UInt8.ofNat (48 + m % 10) :: d) := by
    by_cases hm : m < 10
    · rw [dec_small m hm, if_pos (by omega), Nat.mod_eq_of_lt hm]; rfl
    · rw [dec_big m hm, if_neg (by omega)]; simp
  rcases h with ⟨rfl, rfl⟩ | ⟨hm, h⟩
  · rw [List.append_nil] at key; exact key
  · unfold tailOk at h ⊢; rw [h, if_neg (by omega)]; exact key
theorem rdigits_nat (n : Nat) (hn : n < 1000000000000000000) (w : World) : Calls Tryz.prog 27 #[.int .i64 n] w fun e w' => e = .returned (.string (bs (Lib.itoa n))) ∧ w' = w := by
  rw [itoa_nat]
  have h0 : decide ((n : Int) < 0) = false := by simp
  go_enter Tryz.func27, Tryz.ntmps27
  go_wp2
  go_loopg [0, 3] 19 (fun gf s0 s3 wx => ∃ (m : Nat) (d : Bs), wx = w ∧ s0 = .int .i64 m ∧ s3 = .string (bs d) ∧ d.length + gf = 19 ∧ m < 10 ^ gf ∧ m < 1000000000000000000 ∧ ((d = [] ∧ m = n) ∨ (d ≠ [] ∧ tailOk n m d)))
  case atStart => exact ⟨n, [], rfl, rfl, rfl, rfl, by omega, hn, .inl ⟨rfl, rfl⟩⟩
  case round =>
    obtain ⟨m, d, hww, rfl, rfl, hdl, hmg, hm, hd⟩ := hrel
    subst hww
    have hds : (bs d).size ≤ 19 := by rw [bs_size]; omega
    have goOn : (d = [] ∧ m = n) ∨ (0 < m ∧ tailOk n m d) → 0 < gk → ∃ g' r q : Nat, gk = g' + 1 ∧ r < 10 ∧ (m : Int).tmod 10 = r ∧ (m : Int).tdiv 10 = q ∧ q < 10 ^ g' ∧ q < 1000000000000000000 ∧ tailOk n q (UInt8.ofNat (48 + r) :: d) := fun h hp =>
      ⟨gk - 1, m % 10, m / 10, by omega, by omega, by rw [Int.tmod_eq_emod_of_nonneg (by omega)]; omega, by rw [Int.tdiv_eq_ediv_of_nonneg (by omega)]; omega, by
        obtain ⟨g', rfl⟩ : ∃ g', gk = g' + 1 := ⟨gk - 1, by omega⟩
        rw [Nat.pow_succ] at hmg; simp; omega, by omega, tail_step h⟩
    rcases hd with ⟨rfl, rfl⟩ | ⟨hne, ht⟩
    · obtain ⟨g', r, q, rfl, hr, e1, e2, hq1, hq2, hT⟩ := goOn (.inl ⟨rfl, rfl⟩) (by simp at hdl; omega)
      have hem : (bs ([] : Bs)).toList.isEmpty = true := by rw [Lib.toList_data]; rfl
      have hD := dg_one r hr
      obtain ⟨c, hc⟩ : ∃ c, c = UInt8.ofNat (48 + r) := ⟨_, rfl⟩
      rw [← hc] at hD hT
      have HT : Hid _ := hT
      have hz : (bs [c]).size = 1 := by rw [bs_size]; rfl
      clear goOn hT hc
      go_wp2
      go_roundg g'
      case measure => omega
      case rel => exact ⟨q, c :: [], rfl, rfl, congrArg _ (bs_app [c] []), by simp at hdl ⊢; omega, hq1, hq2, .inr ⟨by simp, HT.out⟩⟩
    · have hem : (bs d).toList.isEmpty = false := by
        rw [Lib.toList_data, bs_data]; cases d with
        | nil => exact absurd rfl hne
        | cons a b => rfl
      by_cases hm0 : 0 < m
      · have hgp : 0 < gk := by
          rcases Nat.eq_zero_or_pos gk with h | h
          · subst h; simp at hmg; omega
          · exact h
        obtain ⟨g', r, q, rfl, hr, e1, e2, hq1, hq2, hT⟩ := goOn (.inr ⟨hm0, ht⟩) hgp
        have hD := dg_one r hr
        obtain ⟨c, hc⟩ : ∃ c, c = UInt8.ofNat (48 + r) := ⟨_, rfl⟩
        rw [← hc] at hD hT
        have HT : Hid _ := hT
        have hz : (bs [c]).size = 1 := by rw [bs_size]; rfl
        clear goOn hT hc ht
        go_wp2
        go_roundg g'
        case measure => omega
        case rel => exact ⟨q, c :: d, rfl, rfl, congrArg _ (bs_app [c] d), by simp at hdl ⊢; omega, hq1, hq2, .inr ⟨by simp, HT.out⟩⟩
      · obtain rfl : m = 0 := by omega
        have hf : Lib.decDigits n = d := by unfold tailOk at ht; rw [ht, if_pos rfl]
        have HF : Hid (Lib.decDigits n = d) := hf
        clear goOn hf ht
        go_wp2
        go_ret
        exact ⟨ret_str (by rw [HF.out]), rfl⟩
theorem rdigits_any (n : Int) (h0 : -1000000000000000000 < n) (h1 : n < 1000000000000000000) (w : World) : Calls Tryz.prog 27 #[.int .i64 n] w fun e w' => e = .returned (.string (bs (Lib.itoa n))) ∧ w' = w := by
  by_cases h : n < 0
  · obtain ⟨m, hm⟩ : ∃ m : Nat, -n = m := ⟨(-n).toNat, by omega⟩
    have hR := rdigits_nat m (by omega) w
    have hz := itoa_size (m : Int) (by omega) (by omega)
    have hi : Lib.itoa n = 45 :: Lib.itoa (m : Int) := by
      rw [itoa_nat]; unfold Lib.itoa; rw [if_pos h]; congr 2; omega
    have hd : decide (n < 0) = true := by simpa using h
    rw [hi]
    rw [← hm] at hR hz ⊢
    clear hi hm
    go_enter Tryz.func27, Tryz.ntmps27
    go_wp2_with (go_at_call 27; refine hR.mono ?_; rintro e w1 ⟨rfl, hw⟩; rw [hw]; clear hw)
    go_ret
    exact ⟨ret_str (bs_app [45] _), rfl⟩
  · obtain ⟨m, rfl⟩ : ∃ m : Nat, n = m := ⟨n.toNat, by omega⟩
    exact rdigits_nat m (by omega) w
theorem rreg_any (n : Int) (h0 : -1000000000000000000 < n) (h1 : n < 1000000000000000000) (w : World) : Calls Tryz.prog 26 #[.int .i64 n] w fun e w' => e = .returned (.string (bs (regP n))) ∧ w' = w := by
  have hR := rdigits_any n h0 h1 w
  have hz := itoa_size n (by omega) (by omega)
  go_enter Tryz.func26, Tryz.ntmps26
  go_wp2_with (go_at_call 27; refine hR.mono ?_; rintro e w1 ⟨rfl, hw⟩; rw [hw]; clear hw)
  go_ret
  exact ⟨ret_str (bs_app [82] _), rfl⟩
def marksP (i : In) : Bs := letP i.U 85 ++ letP i.V 86
theorem rmarks_any (i : In) (w : World) : Calls Tryz.prog 30 #[.agg i.cells] w fun e w' => e = .returned (.string (bs (marksP i))) ∧ Below w.heap.size w w' := by
  cases hU : i.U <;> cases hV : i.V
  all_goals
    have e1 : marksP i = letP i.U 85 ++ letP i.V 86 := rfl
    rw [e1, hU, hV]
    go_enter Tryz.func30, Tryz.ntmps30
    go_wp2
    go_ret
    exact ⟨ret_str (by decide), (Below.refl _ _).alloc (Nat.le_refl _) _⟩
def lastOp (i : In) : Bs := if i.F = 0 then regP i.C else Lib.itoa i.N
theorem rlast_any (i : In) (hi : Wr i) (w : World) : Calls Tryz.prog 31 #[.agg i.cells] w fun e w' => e = .returned (.string (bs (lastOp i))) ∧ Below w.heap.size w w' := by
  have c := hi.C
  have n := hi.N
  have R1 := fun X => rreg_any i.C (by omega) (by omega) X
  have R2 := fun X => rdigits_any i.N (by omega) (by omega) X
  go_enter Tryz.func31, Tryz.ntmps31
  go_wp2_with (first | (go_at_call 26; refine (R1 _).mono ?_; rintro e w1 ⟨rfl, hw⟩; rw [hw]; clear hw) | (go_at_call 27; refine (R2 _).mono ?_; rintro e w1 ⟨rfl, hw⟩; rw [hw]; clear hw))
  all_goals go_ret
  all_goals refine ⟨ret_str ?_, (Below.refl _ _).alloc (Nat.le_refl _) _⟩
  all_goals (unfold lastOp; simp_all)
theorem rnames_any (w : World) : Calls Tryz.prog 29 #[] w fun e w' => ∃ g, e = .returned (.slice (some ⟨g, 0, none⟩) 16 16) ∧ w.heap.size ≤ g ∧ g < w'.heap.size ∧ (∀ o : Nat, o < 16 → w'.cell? ⟨g, o, none⟩ = some (.string (bs (opName o)))) ∧ Below w.heap.size w w' := by
  go_enter Tryz.func29, Tryz.ntmps29
  go_wp2
  go_ret
  refine ⟨_, rfl, Nat.le_refl _, by simp, fun o ho => ?_, (Below.refl _ _).alloc (Nat.le_refl _) _⟩
  rw [World.cell?_alloc_new]
  rcases (show o = 0 ∨ o = 1 ∨ o = 2 ∨ o = 3 ∨ o = 4 ∨ o = 5 ∨ o = 6 ∨ o = 7 ∨ o = 8 ∨ o = 9 ∨ o = 10 ∨ o = 11 ∨ o = 12 ∨ o = 13 ∨ o = 14 ∨ o = 15 by omega) with rfl | rfl | rfl | rfl | rfl | rfl | rfl | rfl | rfl | rfl | rfl | rfl | rfl | rfl | rfl | rfl <;> rfl
theorem rconds_any (w : World) : Calls Tryz.prog 57 #[] w fun e w' => ∃ g, e = .returned (.slice (some ⟨g, 0, none⟩) 16 16) ∧ w.heap.size ≤ g ∧ g < w'.heap.size ∧ (∀ o : Nat, o < 16 → w'.cell? ⟨g, o, none⟩ = some (.string (bs (condName o)))) ∧ Below w.heap.size w w' := by
  go_enter Tryz.func57, Tryz.ntmps57
  go_wp2
  go_ret
  refine ⟨_, rfl, Nat.le_refl _, by simp, fun o ho => ?_, (Below.refl _ _).alloc (Nat.le_refl _) _⟩
  rw [World.cell?_alloc_new]
  rcases (show o = 0 ∨ o = 1 ∨ o = 2 ∨ o = 3 ∨ o = 4 ∨ o = 5 ∨ o = 6 ∨ o = 7 ∨ o = 8 ∨ o = 9 ∨ o = 10 ∨ o = 11 ∨ o = 12 ∨ o = 13 ∨ o = 14 ∨ o = 15 by omega) with rfl | rfl | rfl | rfl | rfl | rfl | rfl | rfl | rfl | rfl | rfl | rfl | rfl | rfl | rfl | rfl <;> rfl
end Go.Proofs.YtkidfnhgknkpiaaGreatDoor
