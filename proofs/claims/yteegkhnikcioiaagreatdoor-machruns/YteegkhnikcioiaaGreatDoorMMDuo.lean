/-
  How runs end, as plain data.
  Runs cut into pieces, and runs that the power ends, as plain data.
  Two machines beside each other, apart.
-/
import Derived.Test.YteegkhnikcioiaaGreatDoorMMade
namespace Go.Proofs.YteegkhnikcioiaaGreatDoor
open Cpu (Cp In Ac En decOk decI accA rightB)
set_option linter.unusedVariables false

/-- How a run that stops at a step ends. -/
structure Stops (e : En) (PC : Int) : Prop where
  k : 2 ≤ e.k ∧ e.k ≤ 6
  a : (e.k = 4 ∨ e.k = 5 ∨ e.k = 6) ∧ e.a = PC ∨ ¬ (e.k = 4 ∨ e.k = 5 ∨ e.k = 6) ∧ e.a = 0
  t : e.k = 4 ∧ e.t ≠ 0 ∨ e.k ≠ 4 ∧ e.t = 0
theorem stops_at (k a PC : Int) (hk : 2 ≤ k ∧ k ≤ 6) (h4 : k ≠ 4) (ha : (k = 5 ∨ k = 6) ∧ a = PC ∨ (k = 2 ∨ k = 3) ∧ a = 0) : Stops (enAt k a) PC :=
  ⟨hk, by
    show (k = 4 ∨ k = 5 ∨ k = 6) ∧ a = PC ∨ ¬ (k = 4 ∨ k = 5 ∨ k = 6) ∧ a = 0
    omega, .inr ⟨h4, rfl⟩⟩
theorem step_stop {m : Ms} (h : m.step.1.2.k ≠ 0) : Stops m.step.1.2 m.step.2.c.PC := by
  by_cases h1 : isW m.c.PC = true
  · by_cases h2 : decOk m.word = true
    · by_cases h3 : m.did.1.2 = 1
      · have e : m.step = ((m.asks, enAt 6 m.c.PC), { m with L := m.did.2 }) := by unfold Ms.step; rw [if_pos h1, if_pos h2, if_pos h3]
        rw [e]; exact stops_at 6 _ _ ⟨by decide, by decide⟩ (by decide) (.inl ⟨.inr rfl, rfl⟩)
      · by_cases h4 : m.did.1.2 = 2
        · have e : m.step = ((m.asks, enAt 2 0), { m with L := m.did.2 }) := by unfold Ms.step; rw [if_pos h1, if_pos h2, if_neg h3, if_pos h4]
          rw [e]; exact stops_at 2 _ _ ⟨by decide, by decide⟩ (by decide) (.inr ⟨.inl rfl, rfl⟩)
        · by_cases h5 : m.c.execT (decI m.word) = true
          · have e : m.step = ((m.asks, (m.counted.trapped (m.c.execN (decI m.word))).1), (m.counted.trapped (m.c.execN (decI m.word))).2) := by unfold Ms.step; rw [if_pos h1, if_pos h2, if_neg h3, if_neg h4, if_pos h5]
            rw [e] at h ⊢
            rcases trapped_kind m.counted (m.c.execN (decI m.word)) with hk | ⟨hk, hm⟩
            · exact absurd hk h
            · show Stops (m.counted.trapped (m.c.execN (decI m.word))).1 (m.counted.trapped (m.c.execN (decI m.word))).2.c.PC
              rw [hm]
              rcases hk with hk | ⟨hk, hn⟩
              · rw [hk]; exact stops_at 3 _ _ ⟨by decide, by decide⟩ (by decide) (.inr ⟨.inr rfl, rfl⟩)
              · rw [hk]; exact ⟨⟨by show (2 : Int) ≤ 4; decide, by show (4 : Int) ≤ 6; decide⟩, .inl ⟨.inl rfl, rfl⟩, .inl ⟨rfl, hn⟩⟩
          · have e : m.step = ((m.asks, enAt 0 0), { m.counted with c := m.c.execD (decI m.word) m.did.1.1 }) := by unfold Ms.step; rw [if_pos h1, if_pos h2, if_neg h3, if_neg h4, if_neg h5]
            rw [e] at h; exact absurd rfl h
    · have e : m.step = (({ K := 0, D := 0, V := 0 }, enAt 5 m.c.PC), m) := by unfold Ms.step; rw [if_pos h1, if_neg h2]
      rw [e]; exact stops_at 5 _ _ ⟨by decide, by decide⟩ (by decide) (.inl ⟨.inl rfl, rfl⟩)
  · have e : m.step = (({ K := 0, D := 0, V := 0 }, enAt 6 m.c.PC), m) := by unfold Ms.step; rw [if_neg h1]
    rw [e]; exact stops_at 6 _ _ ⟨by decide, by decide⟩ (by decide) (.inl ⟨.inr rfl, rfl⟩)
/-- How a run ends. -/
structure EndsAs (e : En) (PC st0 st1 : Int) (n : Nat) : Prop where
  k : 1 ≤ e.k ∧ e.k ≤ 7
  a : (e.k = 4 ∨ e.k = 5 ∨ e.k = 6) ∧ e.a = PC ∨ ¬ (e.k = 4 ∨ e.k = 5 ∨ e.k = 6) ∧ e.a = 0
  t : e.k = 4 ∧ e.t ≠ 0 ∨ e.k ≠ 4 ∧ e.t = 0
  s : st0 ≤ st1 ∧ st1 ≤ st0 + n
  b : e.k = 1 → st1 = st0 + n
theorem run_ends : ∀ (n : Nat) (m : Ms), EndsAs (m.run n).1 (m.run n).2.c.PC m.st (m.run n).2.st n
  | 0, m => by
    cases hg : m.gone
    · have e : m.run 0 = (enAt 1 0, m) := by simp [Ms.run, hg]
      rw [e]
      exact ⟨⟨by show (1 : Int) ≤ 1; decide, by show (1 : Int) ≤ 7; decide⟩, .inr ⟨by show ¬ ((1 : Int) = 4 ∨ (1 : Int) = 5 ∨ (1 : Int) = 6); decide, rfl⟩, .inr ⟨by show (1 : Int) ≠ 4; decide, rfl⟩, ⟨Int.le_refl _, by simp⟩, fun _ => by simp⟩
    · rw [Ms.run_gone m 0 hg]
      exact ⟨⟨by show (1 : Int) ≤ 7; decide, by show (7 : Int) ≤ 7; decide⟩, .inr ⟨by show ¬ ((7 : Int) = 4 ∨ (7 : Int) = 5 ∨ (7 : Int) = 6); decide, rfl⟩, .inr ⟨by show (7 : Int) ≠ 4; decide, rfl⟩, ⟨Int.le_refl _, by simp⟩, fun h => absurd h (by show ¬ (7 : Int) = 1; decide)⟩
  | n + 1, m => by
    cases hg : m.gone
    · by_cases hk : m.step.1.2.k = 0
      · have e : m.run (n + 1) = m.step.2.run n := by simp [Ms.run, hg, hk]
        have ih := run_ends n m.step.2
        rw [(step_goes hk).1] at ih
        rw [e]
        exact ⟨ih.k, ih.a, ih.t, ⟨by have := ih.s.1; omega, by have := ih.s.2; omega⟩, fun h => by have := ih.b h; omega⟩
      · have e : m.run (n + 1) = (m.step.1.2, m.step.2) := by simp [Ms.run, hg, hk]
        have S := step_stop hk
        rw [e]
        refine ⟨⟨by have := S.k.1; show 1 ≤ m.step.1.2.k; omega, by have := S.k.2; show m.step.1.2.k ≤ 7; omega⟩, S.a, S.t, ?_, fun h => absurd (show m.step.1.2.k = 1 from h) (by have := S.k.1; omega)⟩
        rcases step_kept hk with e | e
        · rw [e]; exact ⟨Int.le_refl _, by omega⟩
        · rw [e]; exact ⟨by show m.st ≤ m.st + 1; omega, by show m.st + 1 ≤ m.st + _; omega⟩
    · rw [Ms.run_gone m (n + 1) hg]
      exact ⟨⟨by show (1 : Int) ≤ 7; decide, by show (7 : Int) ≤ 7; decide⟩, .inr ⟨by show ¬ ((7 : Int) = 4 ∨ (7 : Int) = 5 ∨ (7 : Int) = 6); decide, rfl⟩, .inr ⟨by show (7 : Int) ≠ 4; decide, rfl⟩, ⟨Int.le_refl _, by show m.st ≤ m.st + _; omega⟩, fun h => absurd h (by show ¬ (7 : Int) = 1; decide)⟩
end Go.Proofs.YteegkhnikcioiaaGreatDoor

namespace Go.Proofs.YteegkhnikcioiaaGreatDoor
open Cpu (Cp In Ac En decOk decI accA rightB)
set_option linter.unusedVariables false

theorem gone_never {m : Ms} (h : m.cut < 0) : m.gone = false := by
  unfold Ms.gone
  rw [decide_eq_false (by omega)]; rfl
theorem step_cut (m : Ms) : m.step.2.cut = m.cut := by
  by_cases hk : m.step.1.2.k = 0
  · exact (step_goes hk).2.1
  · rcases step_kept hk with e | e <;> rw [e]
theorem run_cut : ∀ (n : Nat) (m : Ms), (m.run n).2.cut = m.cut
  | 0, m => by cases hg : m.gone <;> simp [Ms.run, hg]
  | n + 1, m => by
    cases hg : m.gone
    · by_cases hk : m.step.1.2.k = 0
      · rw [show m.run (n + 1) = m.step.2.run n by simp [Ms.run, hg, hk], run_cut n]; exact step_cut m
      · rw [show m.run (n + 1) = (m.step.1.2, m.step.2) by simp [Ms.run, hg, hk]]; exact step_cut m
    · rw [Ms.run_gone m _ hg]
/-- A run of just as many steps as a run did comes to the same machine. -/
theorem run_self : ∀ (n : Nat) (m : Ms), m.cut < 0 → (m.run ((m.run n).2.st - m.st).toNat).2 = (m.run n).2
  | 0, m, hc => by
    have e : m.run 0 = (enAt 1 0, m) := by simp [Ms.run, gone_never hc]
    rw [e]
    show (m.run (m.st - m.st).toNat).2 = m
    rw [show (m.st - m.st).toNat = 0 by omega, e]
  | n + 1, m, hc => by
    have hg := gone_never hc
    by_cases hk : m.step.1.2.k = 0
    · have e : m.run (n + 1) = m.step.2.run n := by simp [Ms.run, hg, hk]
      have g := step_goes hk
      have ih := run_self n m.step.2 (by rw [g.2.1]; exact hc)
      have s0 := (run_ends n m.step.2).s.1
      rw [e, show ((m.step.2.run n).2.st - m.st).toNat = ((m.step.2.run n).2.st - m.step.2.st).toNat + 1 by rw [g.1] at s0 ⊢; omega]
      have e2 : ∀ k, m.run (k + 1) = m.step.2.run k := fun k => by simp [Ms.run, hg, hk]
      rw [e2]; exact ih
    · have e : m.run (n + 1) = (m.step.1.2, m.step.2) := by simp [Ms.run, hg, hk]
      rw [e]
      show (m.run (m.step.2.st - m.st).toNat).2 = m.step.2
      rcases step_kept hk with h | h
      · rw [h, show (m.st - m.st).toNat = 0 by omega]
        simp [Ms.run, hg]
      · have h2 : m.step.2.st = m.st + 1 := by rw [h]
        rw [h2, show (m.st + 1 - m.st).toNat = 0 + 1 by omega]
        simp [Ms.run, hg, hk]
/-- A run that ended by its budget, and then a run. -/
theorem run_add : ∀ (a b : Nat) (m : Ms), m.cut < 0 → (m.run a).1.k = 1 → m.run (a + b) = (m.run a).2.run b
  | 0, b, m, hc, _ => by
    have e : m.run 0 = (enAt 1 0, m) := by simp [Ms.run, gone_never hc]
    rw [e, Nat.zero_add]
  | a + 1, b, m, hc, h1 => by
    have hg := gone_never hc
    by_cases hk : m.step.1.2.k = 0
    · have e2 : ∀ k, m.run (k + 1) = m.step.2.run k := fun k => by simp [Ms.run, hg, hk]
      rw [e2] at h1 ⊢
      rw [show a + 1 + b = a + b + 1 by omega, e2]
      exact run_add a b m.step.2 (by rw [step_cut]; exact hc) h1
    · rw [show m.run (a + 1) = (m.step.1.2, m.step.2) by simp [Ms.run, hg, hk]] at h1
      have := (step_stop hk).k.1
      exact absurd (show m.step.1.2.k = 1 from h1) (by omega)
/-- The machine whose power never goes. -/
def Ms.whole (m : Ms) : Ms := { m with cut := -1 }
theorem trapped_whole (m : Ms) (n : Int) : m.whole.trapped n = ((m.trapped n).1, (m.trapped n).2.whole) := by
  by_cases h : n = 0
  · have a : m.trapped n = (enAt 3 0, m) := if_pos h
    have b : m.whole.trapped n = (enAt 3 0, m.whole) := if_pos h
    rw [a, b]
  · by_cases g : gotV m.L.M 16 = 0
    · have a : m.trapped n = ({ k := 4, t := n, a := m.c.PC, s := 0 }, m) := by unfold Ms.trapped; rw [if_neg h, if_pos g]
      have b : m.whole.trapped n = ({ k := 4, t := n, a := m.c.PC, s := 0 }, m.whole) := by
        unfold Ms.trapped; rw [if_neg h, if_pos (show gotV m.whole.L.M 16 = 0 from g)]; rfl
      rw [a, b]
    · have a : m.trapped n = (enAt 0 0, { m with L := { m.L with M := pokeM (pokeM m.L.M 20 (n % 4294967296)) 24 m.c.PC }, c := { m.c with PC := gotV m.L.M 16 } }) := by unfold Ms.trapped; rw [if_neg h, if_neg g]
      have b : m.whole.trapped n = (enAt 0 0, ({ m with L := { m.L with M := pokeM (pokeM m.L.M 20 (n % 4294967296)) 24 m.c.PC }, c := { m.c with PC := gotV m.L.M 16 } } : Ms).whole) := by
        unfold Ms.trapped; rw [if_neg h, if_neg (show ¬ gotV m.whole.L.M 16 = 0 from g)]; rfl
      rw [a, b]
theorem step_whole (m : Ms) : m.whole.step = (m.step.1, m.step.2.whole) := by
  by_cases h1 : isW m.c.PC = true
  · by_cases h2 : decOk m.word = true
    · by_cases h3 : m.did.1.2 = 1
      · have a : m.step = ((m.asks, enAt 6 m.c.PC), { m with L := m.did.2 }) := by unfold Ms.step; rw [if_pos h1, if_pos h2, if_pos h3]
        have b : m.whole.step = ((m.asks, enAt 6 m.c.PC), ({ m with L := m.did.2 } : Ms).whole) := by
          unfold Ms.step; rw [if_pos (show isW m.whole.c.PC = true from h1), if_pos (show decOk m.whole.word = true from h2), if_pos (show m.whole.did.1.2 = 1 from h3)]; rfl
        rw [a, b]
      · by_cases h4 : m.did.1.2 = 2
        · have a : m.step = ((m.asks, enAt 2 0), { m with L := m.did.2 }) := by unfold Ms.step; rw [if_pos h1, if_pos h2, if_neg h3, if_pos h4]
          have b : m.whole.step = ((m.asks, enAt 2 0), ({ m with L := m.did.2 } : Ms).whole) := by
            unfold Ms.step; rw [if_pos (show isW m.whole.c.PC = true from h1), if_pos (show decOk m.whole.word = true from h2), if_neg (show ¬ m.whole.did.1.2 = 1 from h3), if_pos (show m.whole.did.1.2 = 2 from h4)]; rfl
          rw [a, b]
        · by_cases h5 : m.c.execT (decI m.word) = true
          · have a : m.step = ((m.asks, (m.counted.trapped (m.c.execN (decI m.word))).1), (m.counted.trapped (m.c.execN (decI m.word))).2) := by unfold Ms.step; rw [if_pos h1, if_pos h2, if_neg h3, if_neg h4, if_pos h5]
            have b : m.whole.step = ((m.asks, (m.counted.whole.trapped (m.c.execN (decI m.word))).1), (m.counted.whole.trapped (m.c.execN (decI m.word))).2) := by
              unfold Ms.step; rw [if_pos (show isW m.whole.c.PC = true from h1), if_pos (show decOk m.whole.word = true from h2), if_neg (show ¬ m.whole.did.1.2 = 1 from h3), if_neg (show ¬ m.whole.did.1.2 = 2 from h4), if_pos (show m.whole.c.execT (decI m.whole.word) = true from h5)]; rfl
            rw [a, b, trapped_whole]
          · have a : m.step = ((m.asks, enAt 0 0), { m.counted with c := m.c.execD (decI m.word) m.did.1.1 }) := by unfold Ms.step; rw [if_pos h1, if_pos h2, if_neg h3, if_neg h4, if_neg h5]
            have b : m.whole.step = ((m.asks, enAt 0 0), ({ m.counted with c := m.c.execD (decI m.word) m.did.1.1 } : Ms).whole) := by
              unfold Ms.step; rw [if_pos (show isW m.whole.c.PC = true from h1), if_pos (show decOk m.whole.word = true from h2), if_neg (show ¬ m.whole.did.1.2 = 1 from h3), if_neg (show ¬ m.whole.did.1.2 = 2 from h4), if_neg (show ¬ m.whole.c.execT (decI m.whole.word) = true from h5)]; rfl
            rw [a, b]
    · have a : m.step = (({ K := 0, D := 0, V := 0 }, enAt 5 m.c.PC), m) := by unfold Ms.step; rw [if_pos h1, if_neg h2]
      have b : m.whole.step = (({ K := 0, D := 0, V := 0 }, enAt 5 m.c.PC), m.whole) := by
        unfold Ms.step; rw [if_pos (show isW m.whole.c.PC = true from h1), if_neg (show ¬ decOk m.whole.word = true from h2)]; rfl
      rw [a, b]
  · have a : m.step = (({ K := 0, D := 0, V := 0 }, enAt 6 m.c.PC), m) := by unfold Ms.step; rw [if_neg h1]
    have b : m.whole.step = (({ K := 0, D := 0, V := 0 }, enAt 6 m.c.PC), m.whole) := by
      unfold Ms.step; rw [if_neg (show ¬ isW m.whole.c.PC = true from h1)]; rfl
    rw [a, b]
theorem whole_gone (m : Ms) : m.whole.gone = false := gone_never (m := m.whole) (by show (-1 : Int) < 0; decide)
/-- Without the cut a run of just as many steps comes to the same machine. -/
theorem run_whole : ∀ (n : Nat) (m : Ms), (m.whole.run ((m.run n).2.st - m.st).toNat).2 = (m.run n).2.whole
  | 0, m => by
    have e : (m.run 0).2 = m := by cases hg : m.gone <;> simp [Ms.run, hg]
    rw [e, show (m.st - m.st).toNat = 0 by omega]
    simp [Ms.run, whole_gone]
  | n + 1, m => by
    cases hg : m.gone
    case true =>
      rw [Ms.run_gone m _ hg]
      show (m.whole.run (m.st - m.st).toNat).2 = m.whole
      rw [show (m.st - m.st).toNat = 0 by omega]
      simp [Ms.run, whole_gone]
    by_cases hk : m.step.1.2.k = 0
    · have e : m.run (n + 1) = m.step.2.run n := by simp [Ms.run, hg, hk]
      have g := step_goes hk
      have ih := run_whole n m.step.2
      have s0 := (run_ends n m.step.2).s.1
      rw [e, show ((m.step.2.run n).2.st - m.st).toNat = ((m.step.2.run n).2.st - m.step.2.st).toNat + 1 by rw [g.1] at s0 ⊢; omega]
      have e2 : ∀ k, m.whole.run (k + 1) = m.step.2.whole.run k := fun k => by
        have sw := step_whole m
        have k0 : m.whole.step.1.2.k = 0 := by rw [sw]; exact hk
        have e3 : m.whole.run (k + 1) = m.whole.step.2.run k := by simp [Ms.run, whole_gone, k0]
        rw [e3, sw]
      rw [e2]; exact ih
    · have e : m.run (n + 1) = (m.step.1.2, m.step.2) := by simp [Ms.run, hg, hk]
      rw [e]
      show (m.whole.run (m.step.2.st - m.st).toNat).2 = m.step.2.whole
      rcases step_kept hk with h | h
      · rw [h, show (m.st - m.st).toNat = 0 by omega]
        simp [Ms.run, whole_gone]
      · have h2 : m.step.2.st = m.st + 1 := by rw [h]
        have sw := step_whole m
        have k0 : ¬ m.whole.step.1.2.k = 0 := by rw [sw]; exact hk
        have e3 : m.whole.run 1 = (m.whole.step.1.2, m.whole.step.2) := by simp [Ms.run, whole_gone, k0]
        rw [h2, show (m.st + 1 - m.st).toNat = 1 by omega, e3, sw]
/-- A run that the power ends, or doesn't: how many writes there were. -/
theorem run_cuts : ∀ (n : Nat) (m : Ms), 0 ≤ m.cut → (m.L.m : Int) ≤ m.cut → ((m.run n).1.k = 7 ∧ ((m.run n).2.L.m : Int) = m.cut ∧ (m.run n).2.gone = true) ∨ ((m.run n).1.k ≠ 7 ∧ ((m.run n).2.L.m : Int) < m.cut)
  | n, m, h0, h1 => by
    cases hg : m.gone
    case true =>
      rw [Ms.run_gone m _ hg]
      have h2 : m.cut ≤ (m.L.m : Int) := by
        have := hg; simp [Ms.gone] at this; exact this.2
      exact .inl ⟨rfl, by show (m.L.m : Int) = m.cut; omega, hg⟩
    have h2 : (m.L.m : Int) < m.cut := by
      have := hg; simp [Ms.gone, h0] at this; exact this
    cases n with
    | zero =>
      have e : m.run 0 = (enAt 1 0, m) := by simp [Ms.run, hg]
      rw [e]
      exact .inr ⟨by show ¬ (1 : Int) = 7; decide, h2⟩
    | succ n =>
      by_cases hk : m.step.1.2.k = 0
      · have e : m.run (n + 1) = m.step.2.run n := by simp [Ms.run, hg, hk]
        have g := (step_goes hk).2.1
        have ih := run_cuts n m.step.2 (by rw [g]; exact h0) (by rw [g]; rcases step_m1 hk with e | e <;> rw [e] <;> omega)
        rw [g] at ih
        rw [e]; exact ih
      · have e : m.run (n + 1) = (m.step.1.2, m.step.2) := by simp [Ms.run, hg, hk]
        rw [e]
        refine .inr ⟨?_, ?_⟩
        · have := (step_stop hk).k.2
          show ¬ m.step.1.2.k = 7
          omega
        · show (m.step.2.L.m : Int) < m.cut
          rcases step_kept hk with h | h <;> rw [h] <;> exact h2
end Go.Proofs.YteegkhnikcioiaaGreatDoor

namespace Go.Proofs.YteegkhnikcioiaaGreatDoor
open Go.ChangeShapes Go.WideShapes Go.ChangeAt Go.RowKit
open Cpu (Cp In Ac En decOk decI accA rightB)
set_option linter.unusedVariables false

theorem Mac.lt {w : World} {p b : Nat} {P : Ph} {m : Ms} (h : Mac w p b P m) : ∀ x, MM p b P x → x < w.heap.size := fun x hx => hx.elim (fun e => by rw [e]; exact h.plt) (h.bus.lt x)
structure MDuo (w X : World) (p b : Nat) (P : Ph) (m : Ms) (q c : Nat) (Q : Ph) (n : Ms) : Prop where
  one : MOwn w p b P m X
  two : MOwn w q c Q n X
  ap : ∀ x, MM p b P x → ¬ MM q c Q x
theorem MDuo.fst {w X Y : World} {p b q c : Nat} {P P' Q : Ph} {m m' n : Ms} (h : MDuo w X p b P m q c Q n) (hs : MStp X p b P Y P' m') : MDuo w Y p b P' m' q c Q n where
  one := h.one.step hs
  two := ⟨h.two.mac.keep hs.tou.size fun x hx hm => hs.tou.block x hx fun hp => hm.elim (fun hm => h.ap x hp hm) fun e => by
      have := h.one.mac.z x hp
      omega, (h.one.step hs).below, h.two.new⟩
  ap := fun x hx hy => hx.elim (fun e => h.ap x (.inl e) hy) fun e => (hs.new x e).elim (fun e => h.ap x (.inr e) hy) fun e => absurd (h.two.mac.lt x hy) (by omega)
theorem MDuo.swap {w X : World} {p b q c : Nat} {P Q : Ph} {m n : Ms} (h : MDuo w X p b P m q c Q n) : MDuo w X q c Q n p b P m := ⟨h.two, h.one, fun x hx hy => h.ap x hy hx⟩
theorem MDuo.snd {w X Y : World} {p b q c : Nat} {P Q Q' : Ph} {m n n' : Ms} (h : MDuo w X p b P m q c Q n) (hs : MStp X q c Q Y Q' n') : MDuo w Y p b P m q c Q' n' := (h.swap.fst hs).swap
theorem MDuo.next {w X Y : World} {p b q c : Nat} {P Q : Ph} {m n : Ms} (h : MDuo w X p b P m q c Q n) (hb : Below X.heap.size X Y) : MDuo w Y p b P m q c Q n := ⟨h.one.next hb, h.two.next hb, h.ap⟩
theorem MDuo.begin {w X Y : World} {p b q c : Nat} {P Q : Ph} {m n : Ms} (h1 : MOwn w p b P m X) (h2 : MOwn X q c Q n Y) : MDuo w Y p b P m q c Q n :=
  ⟨h1.next h2.below, ⟨h2.mac, h1.below.trans (h2.below.mono h1.below.size), fun x hx => Nat.le_trans h1.below.size (h2.new x hx)⟩, fun x hx hy => absurd (h1.mac.lt x hx) (by have := h2.new x hy; omega)⟩
theorem new_same (f : Nat → Int) (len : Nat) (en : Int) {D D' : Dk} {N : Nat} (h : D.n = N ∧ D.m = 0 ∧ D.S = (fun _ _ => 0)) (h' : D'.n = N ∧ D'.m = 0 ∧ D'.S = (fun _ _ => 0)) : Ms.new f len D en = Ms.new f len D' en := by
  unfold Ms.new Lg.new
  rw [h.1, h.2.1, h.2.2, h'.1, h'.2.1, h'.2.2]
end Go.Proofs.YteegkhnikcioiaaGreatDoor
