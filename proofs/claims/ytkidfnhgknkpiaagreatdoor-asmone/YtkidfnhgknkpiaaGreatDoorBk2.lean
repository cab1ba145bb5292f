/-
  Layer 6, plain: each word is read from the line that is written of it. Nothing of the program's run is in this text.
-/
import Derived.Test.YtkidfnhgknkpiaaGreatDoorBk1
import Derived.Test.YtkidfnhgknkpiaaGreatDoorT1
namespace Go.Proofs.YtkidfnhgknkpiaaGreatDoor
set_option linter.unusedVariables false
set_option linter.unusedSimpArgs false

theorem reg_inj {m n : Nat} (hm : m < 100) (hn : n < 100) (h : regP (m : Int) = regP (n : Int)) : m = n := by
  have h2 : Lib.itoa (m : Int) = Lib.itoa (n : Int) := by simpa [regP] using h
  have e1 := atoi_itoa (m : Int) (by omega) (by omega)
  rw [h2, atoi_itoa (n : Int) (by omega) (by omega)] at e1
  injection e1 with e1
  omega
theorem reg_look : ∀ (k n : Nat), k < 100 → n < k → look (regL k) (regP (n : Int)) = some ((n : Nat) : Int)
  | 0, n, _, h => by omega
  | k + 1, n, hk, h => by
    rw [regL, look_cons]
    by_cases e : regP (k : Int) = regP (n : Int)
    · have := reg_inj (by omega) (by omega) e
      rw [if_pos e, this]
    · rw [if_neg e]
      exact reg_look k n (by omega) (by
        have : k ≠ n := fun hh => e (by rw [hh])
        omega)
theorem cond_tab : ((List.range 16).all fun n => (look (condL 16) (condName (n : Nat))) == some ((n : Nat) : Int)) = true := by kernel_rfl
theorem cond_back (n : Int) (h0 : 0 ≤ n) (h1 : n < 16) : condOf (condName n) = some n := by
  obtain ⟨m, rfl⟩ := Int.eq_ofNat_of_zero_le h0
  have := List.all_eq_true.1 cond_tab m (by simp; omega)
  simpa [condOf] using this
theorem reg_back (n : Int) (h0 : 0 ≤ n) (h1 : n < 16) : regOf (regP n) = some n := by
  obtain ⟨m, rfl⟩ := Int.eq_ofNat_of_zero_le h0
  exact reg_look 16 m (by omega) (by omega)
theorem reg_none : ∀ (k : Nat) (s : Bs), s.head? ≠ some 82 → look (regL k) s = none
  | 0, s, _ => rfl
  | k + 1, s, h => by
    rw [regL, look_cons, if_neg (fun e => h (by rw [← e]; simp [regP])), reg_none k s h]
theorem itoa_head (n : Int) : (Lib.itoa n).head? ≠ some 82 := fun h => by
  have h2 : okc 82 = true := by decide
  have hm := List.mem_of_mem_head? h
  unfold Lib.itoa at hm
  split at hm
  · rcases List.mem_cons.1 hm with e | hm
    · exact absurd e (by decide)
    · have := dec_all _ _ (Nat.le_refl _) _ hm; revert this; decide
  · have := dec_all _ _ (Nat.le_refl _) _ hm; revert this; decide
theorem num_noreg (n : Int) : regOf (Lib.itoa n) = none := reg_none 16 _ (itoa_head n)
theorem way_back (a n : Int) (h0 : -8388608 ≤ n) (h1 : n ≤ 8388607) : wordsTo (Lib.itoa (toP a n)) a = some n := by
  have hb : 0 ≤ toP a n ∧ toP a n ≤ 4294967295 := by unfold toP; omega
  have e1 : Lib.itoa (toP a n) = Lib.decDigits (toP a n).toNat := by rw [Lib.itoa, if_neg (by omega)]
  have e2 : Lib.parseUintB 32 (Lib.itoa (toP a n)) = .ok (toP a n).toNat := by rw [e1]; exact uint32_dec _ (by omega)
  have e3 : ((toP a n).toNat : Int) = toP a n := Int.toNat_of_nonneg hb.1
  have e4 : wayOf (toP a n) a = 4 * n := by
    unfold wayOf toP
    rw [show ((a + 4 + 4 * n) % 4294967296 - (a + 4)) % 4294967296 = 4 * n % 4294967296 by omega]
    unfold sext
    rw [if_pos (by omega)]
    unfold sx
    simp
    split <;> omega
  rw [wordsTo, e2]
  simp only [e3, if_true, e4]
  rw [if_pos (Int.mul_tmod_right 4 n)]
  congr 1
  exact Int.mul_tdiv_cancel_left n (by decide)
/-- An instruction's sort, its operands none. -/
def baseI (i : In) : In := { i with A := 0, B := 0, C := 0, N := 0 }
theorem base_name (i : In) : nameP (baseI i) = nameP i := rfl
theorem base_kinds (i : In) : kindsP (baseI i) = kindsP i := rfl
theorem base_right {i : In} (h : rightB i = true) : rightB (baseI i) = true := by
  unfold rightB at h ⊢
  simp only [Bool.and_eq_true, regB, decide_eq_true_eq] at h
  obtain ⟨_, _, _, h⟩ := h
  have hr : ropB i = true → ropB (baseI i) = true := fun hh => by
    unfold ropB at hh ⊢
    simp only [Bool.and_eq_true] at hh ⊢
    exact ⟨hh.1, by simp [baseI]⟩
  simp only [baseI, regB] at hr ⊢
  split at h
  · rename_i hF
    simp only [Bool.and_eq_true] at h
    rw [hF] at hr
    simp [hF]
    exact hr h.2
  · split at h
    · rename_i hF
      simp only [Bool.and_eq_true] at h
      rw [hF] at hr
      simp [hF]
      exact hr h.2.2.2
    · split at h
      · rename_i hF
        simp only [Bool.and_eq_true] at h
        simp [hF, fit20]
        exact h.2.1
      · split at h
        · rename_i hF
          simp only [Bool.and_eq_true] at h
          simp [hF, targetB, fit24]
          exact h.2.1
        · cases h

/-! The names: each sort is found by its name. -/
def sameI (i j : In) : Bool := i.F == j.F && i.U == j.U && i.V == j.V && i.A == j.A && i.B == j.B && i.O == j.O && i.C == j.C && i.N == j.N
theorem same_eq {i j : In} (h : sameI i j = true) : i = j := by
  simp only [sameI, Bool.and_eq_true, beq_iff_eq] at h
  obtain ⟨⟨⟨⟨⟨⟨⟨h1, h2⟩, h3⟩, h4⟩, h5⟩, h6⟩, h7⟩, h8⟩ := h
  cases i; cases j
  simp_all
def okOpt (i : In) : Option In → Bool
  | none => false
  | some j => sameI i j
theorem okOpt_eq {i : In} {o : Option In} (h : okOpt i o = true) : o = some i := by
  cases o with
  | none => cases h
  | some j => rw [same_eq h]
def isOk (l : Bs) : Bool := l.all okc && !l.isEmpty
def sortsOk : Bool := (List.range 256).all fun q => !rightB (inOf (q / 64) (q / 4 % 16) (q % 4)) ||
  (okOpt (inOf (q / 64) (q / 4 % 16) (q % 4)) (look (if numK (inOf (q / 64) (q / 4 % 16) (q % 4)) then (allN 64).n else (allN 64).r) (nameP (inOf (q / 64) (q / 4 % 16) (q % 4)))) &&
    (isOk (nameP (inOf (q / 64) (q / 4 % 16) (q % 4))) && !(nameP (inOf (q / 64) (q / 4 % 16) (q % 4)) == wordT)))
theorem sorts_ok : sortsOk = true := by kernel_rfl
def condsOk : Bool := (List.range 16).all fun n => isOk (condName (n : Nat))
theorem conds_ok : condsOk = true := by kernel_rfl
theorem sort_ok {i : In} (h : rightB i = true) : look (if numK i then (allN 64).n else (allN 64).r) (nameP i) = some (baseI i) ∧ okL (nameP i) ∧ nameP i ≠ [] ∧ nameP i ≠ wordT := by
  have hb := base_right h
  have hf := (right_bd h).F
  obtain ⟨f, o, m, hfo, hm, e⟩ : ∃ f o m : Nat, (f < 4 ∧ o < 16) ∧ m < 4 ∧ baseI i = inOf f o m := by
    refine ⟨i.F.toNat, i.O.toNat, (if i.U then 2 else 0) + (if i.V then 1 else 0), by omega, by split <;> split <;> omega, ?_⟩
    have e1 : ((i.F.toNat : Nat) : Int) = i.F := by omega
    have e2 : ((i.O.toNat : Nat) : Int) = i.O := by omega
    unfold baseI inOf
    rw [e1, e2]
    cases hU : i.U <;> cases hV : i.V <;> simp
  have := List.all_eq_true.1 sorts_ok (f * 64 + o * 4 + m) (by simp; omega)
  rw [show (f * 64 + o * 4 + m) / 64 = f by omega, show (f * 64 + o * 4 + m) / 4 % 16 = o by omega, show (f * 64 + o * 4 + m) % 4 = m by omega, ← e, hb] at this
  simp only [Bool.not_true, Bool.false_or, Bool.and_eq_true] at this
  obtain ⟨h1, h2, h3⟩ := this
  have hn : numK (baseI i) = numK i := rfl
  rw [base_name, hn] at h1
  rw [base_name] at h2 h3
  simp only [isOk, Bool.and_eq_true] at h2
  refine ⟨okOpt_eq h1, fun c hc => List.all_eq_true.1 h2.1 c hc, ?_, ?_⟩
  · intro e; rw [e] at h2; simp at h2
  · intro e; rw [e] at h3; simp at h3
theorem cond_ok (n : Int) (h0 : 0 ≤ n) (h1 : n < 16) : okL (condName n) ∧ condName n ≠ [] := by
  obtain ⟨m, rfl⟩ := Int.eq_ofNat_of_zero_le h0
  have := List.all_eq_true.1 conds_ok m (by simp; omega)
  simp only [isOk, Bool.and_eq_true] at this
  exact ⟨fun c hc => List.all_eq_true.1 this.1 c hc, fun e => by rw [e] at this; simp at this⟩
theorem reg_ok (n : Int) : okL (regP n) ∧ regP n ≠ [] := ⟨okL_app (by intro c hc; simp at hc; subst hc; decide) (itoa_ok n), by simp [regP]⟩
theorem num_ok (n : Int) : okL (Lib.itoa n) ∧ Lib.itoa n ≠ [] := ⟨itoa_ok n, itoa_ne n⟩
theorem right_rop {i : In} (h : rightB i = true) (hF : i.F = 0 ∨ i.F = 1) : ropB i = true := by
  unfold rightB at h
  simp only [Bool.and_eq_true] at h
  obtain ⟨_, _, _, h⟩ := h
  rcases hF with hF | hF
  · rw [if_pos hF] at h; simp only [Bool.and_eq_true] at h; exact h.2
  · rw [if_neg (by omega), if_pos hF] at h; simp only [Bool.and_eq_true] at h; exact h.2.2.2
theorem rop_mov {i : In} (h : ropB i = true) (hO : i.O = 0) : i.B = 0 ∧ (i.U = true → i.C = 0) := by
  unfold ropB at h
  simp only [Bool.and_eq_true] at h
  have h2 := h.2
  rw [if_pos hO] at h2
  simp only [Bool.and_eq_true, decide_eq_true_eq, Bool.or_eq_true, Bool.not_eq_true'] at h2
  exact ⟨h2.1, fun hU => by rcases h2.2 with e | e; · rw [hU] at e; cases e
                            · exact e⟩
theorem rop_trap0 {i : In} (h : ropB i = true) (hO : i.O = 15) : i.A = 0 ∧ i.B = 0 := by
  unfold ropB at h
  simp only [Bool.and_eq_true] at h
  have h2 := h.2
  rw [if_neg (by omega), if_pos hO] at h2
  simpa using h2
theorem rop_ways0 {i : In} (h : ropB i = true) (hF : i.F = 0) : i.O ≠ 15 := by
  intro hO
  unfold ropB at h
  simp only [Bool.and_eq_true] at h
  have h2 := h.1.2
  rw [hO, hF] at h2
  generalize i.U = U at h2
  generalize i.V = V at h2
  cases U <;> cases V <;> revert h2 <;> decide
theorem fill_nil (a : Int) (i : In) (ss : List Bs) : fillP a i [] ss = some i := by cases ss <;> rfl
theorem fill_cons (a : Int) (i : In) (k : UInt8) (ks : Bs) (s : Bs) (ss : List Bs) : fillP a i (k :: ks) (s :: ss) = (withP i k s a).bind fun i' => fillP a i' ks ss := rfl
/-- What is read of the operands of a right instruction is it again. -/
theorem filled_back {i : In} (a : Int) (h : rightB i = true) : ∃ xs z, (kindsP i).map (operandP i a) = xs ++ [z] ∧ (∀ y ∈ xs ++ [z], okL y ∧ y ≠ []) ∧ (regOf z).isSome = !numK i ∧ filledP (baseI i) (xs ++ [z]) a = some i := by
  have hb := right_bd h
  obtain ⟨hA, hB, hC, hF⟩ := hb
  have rA := reg_back i.A hA.1 hA.2
  have rB := reg_back i.B hB.1 hB.2
  have rC := reg_back i.C hC.1 hC.2
  have cA := cond_back i.A hA.1 hA.2
  have oA := cond_ok i.A hA.1 hA.2
  have okA := reg_ok i.A
  have okB := reg_ok i.B
  have okC := reg_ok i.C
  have okN := num_ok i.N
  have okT := num_ok (toP a i.N)
  have nN := num_noreg i.N
  have nT := num_noreg (toP a i.N)
  rcases hF with ⟨hF, hN, hO⟩ | ⟨hF, hC0, hN0, hN1, hO⟩ | ⟨hF, hC0, hO, hN0, hN1⟩ | ⟨hF, hB0, hO, hU⟩
  · -- registers
    have hr := right_rop h (.inl hF)
    have hnum := num_back i.N (by omega) (by omega)
    by_cases hT : i.O = 15
    · have := rop_ways0 hr hF; omega
    · by_cases hO0 : i.O = 0
      · have hz := rop_mov hr hO0
        cases hU : i.U with
        | true =>
          refine ⟨[], regP i.A, by simp [kindsP, takesP, hF, hO0, hU, operandP], by simpa using okA, by simp [rA, numK, kindsP, takesP, hF, hO0, hU], ?_⟩
          have hC2 := hz.2 hU
          simp [filledP, base_kinds, kindsP, takesP, hF, hO0, hU, fill_cons, fill_nil, withP, rA]
          obtain ⟨F, U, V, A, B, O, C, N⟩ := i
          simp_all [baseI, fill_cons, fill_nil, withP]
        | false =>
          refine ⟨[regP i.A], regP i.C, by simp [kindsP, takesP, lastP, hF, hO0, hU, operandP], by simpa using ⟨okA, okC⟩, by simp [rC, numK, kindsP, takesP, lastP, hF, hO0, hU], ?_⟩
          simp [filledP, base_kinds, kindsP, takesP, lastP, hF, hO0, hU, fill_cons, fill_nil, withP, rA, rC]
          obtain ⟨F, U, V, A, B, O, C, N⟩ := i
          simp_all [baseI, fill_cons, fill_nil, withP]
      · refine ⟨[regP i.A, regP i.B], regP i.C, by simp [kindsP, takesP, lastP, hF, hO0, hT, operandP], by simpa using ⟨okA, okB, okC⟩, by simp [rC, numK, kindsP, takesP, lastP, hF, hO0, hT], ?_⟩
        simp [filledP, base_kinds, kindsP, takesP, lastP, hF, hO0, hT, fill_cons, fill_nil, withP, rA, rB, rC]
        obtain ⟨F, U, V, A, B, O, C, N⟩ := i
        simp_all [baseI, fill_cons, fill_nil, withP]
  · have hr := right_rop h (.inr hF)
    have hnum := num_back i.N (by omega) (by omega)
    by_cases hT : i.O = 15
    · have hz := rop_trap0 hr hT
      refine ⟨[], Lib.itoa i.N, by simp [kindsP, takesP, hF, hT, operandP], by simpa using okN, by simp [nN, numK, kindsP, takesP, hF, hT], ?_⟩
      simp [filledP, base_kinds, kindsP, takesP, hF, hT, fill_cons, fill_nil, withP, hnum]
      obtain ⟨F, U, V, A, B, O, C, N⟩ := i
      simp_all [baseI, fill_cons, fill_nil, withP]
    · by_cases hO0 : i.O = 0
      · have hz := rop_mov hr hO0
        refine ⟨[regP i.A], Lib.itoa i.N, by simp [kindsP, takesP, lastP, hF, hO0, operandP], by simpa using ⟨okA, okN⟩, by simp [nN, numK, kindsP, takesP, lastP, hF, hO0], ?_⟩
        simp [filledP, base_kinds, kindsP, takesP, lastP, hF, hO0, fill_cons, fill_nil, withP, rA, hnum]
        obtain ⟨F, U, V, A, B, O, C, N⟩ := i
        simp_all [baseI, fill_cons, fill_nil, withP]
      · refine ⟨[regP i.A, regP i.B], Lib.itoa i.N, by simp [kindsP, takesP, lastP, hF, hO0, hT, operandP], by simpa using ⟨okA, okB, okN⟩, by simp [nN, numK, kindsP, takesP, lastP, hF, hO0, hT], ?_⟩
        simp [filledP, base_kinds, kindsP, takesP, lastP, hF, hO0, hT, fill_cons, fill_nil, withP, rA, rB, hnum]
        obtain ⟨F, U, V, A, B, O, C, N⟩ := i
        simp_all [baseI, fill_cons, fill_nil, withP]
  · have hnum := num_back i.N (by omega) (by omega)
    refine ⟨[regP i.A, regP i.B], Lib.itoa i.N, by simp [kindsP, hF, operandP], by simpa using ⟨okA, okB, okN⟩, by simp [nN, numK, kindsP, hF], ?_⟩
    simp [filledP, base_kinds, kindsP, hF, fill_cons, fill_nil, withP, rA, rB, hnum]
    obtain ⟨F, U, V, A, B, O, C, N⟩ := i
    simp_all [baseI, fill_cons, fill_nil, withP]
  · rcases hU with ⟨hU, hC0, hN0, hN1⟩ | ⟨hU, hN0⟩
    · have hw := way_back a i.N hN0 hN1
      refine ⟨[condName i.A], Lib.itoa (toP a i.N), by simp [kindsP, hF, hU, operandP], by simpa using ⟨oA, okT⟩, by simp [nT, numK, kindsP, hF, hU], ?_⟩
      simp [filledP, base_kinds, kindsP, hF, hU, fill_cons, fill_nil, withP, cA, hw]
      obtain ⟨F, U, V, A, B, O, C, N⟩ := i
      simp_all [baseI, fill_cons, fill_nil, withP]
    · refine ⟨[condName i.A], regP i.C, by simp [kindsP, hF, hU, operandP], by simpa using ⟨oA, okC⟩, by simp [rC, numK, kindsP, hF, hU], ?_⟩
      simp [filledP, base_kinds, kindsP, hF, hU, fill_cons, fill_nil, withP, cA, rC]
      obtain ⟨F, U, V, A, B, O, C, N⟩ := i
      simp_all [baseI, fill_cons, fill_nil, withP]
end Go.Proofs.YtkidfnhgknkpiaaGreatDoor
