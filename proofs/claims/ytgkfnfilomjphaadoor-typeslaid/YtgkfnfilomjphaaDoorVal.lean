/-
  Layer 11: the step of a type's places, of a row whose steps alone are told.
-/
import Derived.Test.YtgkfnfilomjphaaDoorVsn
namespace Go.Proofs.YtgkfnfilomjphaaDoor
set_option linter.unusedVariables false
set_option linter.unusedSimpArgs false
open Go.ChangeShapes Go.WideShapes Go.ChangeAt Go.RowKit
attribute [local go_sem ↓] ldY_seal stY_seal
set_option maxHeartbeats 8000000 in
theorem alignOf_al (w : World) (b : Nat) (c : Rc) (A : List Int) (hbx : BA w b 56 (rcE c)) (hal : RdV w 1 c.al A.length (flat iE A)) (t : Tt) (ht : t.fm = 8 → 0 ≤ t.el ∧ t.el < (A.length : Int)) : Calls Tryd.prog 34 #[.pointer (some ⟨b, 0, none⟩), .agg (ttE t)] w fun e w' => e = .returned (.int .i64 (alP A t)) ∧ Below w.heap.size w w' := by
  have hb0 : Below w.heap.size w (w.alloc (.cells (ttE t) 31)) := (Below.refl _ _).alloc (Nat.le_refl _) _
  have kb := BA.new w 31 (ttE t)
  have f0 : (w.alloc (.cells (ttE t) 31)).cell? ⟨w.heap.size, 0, none⟩ = some (.int .i64 t.fm) := kb.cell 0
  have f2 : (w.alloc (.cells (ttE t) 31)).cell? ⟨w.heap.size, 2, none⟩ = some (.int .i64 t.el) := kb.cell 2
  have c2 : (w.alloc (.cells (ttE t) 31)).cell? ⟨b, 2, none⟩ = some (.slice c.al.a c.al.n c.al.c) := (hbx.below hb0).cell 2
  rw [hal.len] at c2
  have HB := hid_of hb0
  simp only [ttE] at f0 f2 c2 HB ⊢
  clear kb
  by_cases h8 : t.fm = 8
  · obtain ⟨q0, q1⟩ := ht h8
    obtain ⟨n, hnn⟩ : ∃ n : Nat, t.el = (n : Int) := ⟨t.el.toNat, by omega⟩
    have hn : n < A.length := by omega
    have hP : alP A t = A[n] := by unfold alP; rw [if_neg (by omega), if_neg (by omega), if_pos h8, hnn, alD_at hn]
    obtain ⟨g, off, hga, hg, hc⟩ := (hal.below hb0).elem (fun _ => rfl) n hn
    have c3 : (w.alloc (.cells (ttE t) 31)).cell? ⟨g, off + n * 1 + 0, none⟩ = some (.int .i64 A[n]) := hc 0 _ rfl
    rw [Nat.add_zero, Nat.mul_one] at c3
    simp only [ttE] at c3
    rw [hP]
    rw [hga] at c2
    rw [h8] at f0 f2 c2 c3 HB ⊢
    rw [hnn] at f0 f2 c2 c3 HB ⊢
    have j0 : (0 : Int) ≤ (n : Int) := by omega
    have j1 : (n : Int) < (A.length : Int) := by omega
    generalize A[n] = av at *
    clear hbx hal hc hga hb0 q0 q1 hnn h8 ht hP
    go_enter Tryd.func34, Tryd.ntmps34
    go_wp2_with fail
    go_quiet (fail)
    go_wp2
    go_ret
    exact ⟨rfl, HB.out.trans (bdn (Below.refl _ _) _)⟩
  · have hP : alP A t = if t.fm = 2 ∨ t.fm = 3 ∨ t.fm = 4 then 1 else if t.fm = 1 ∨ t.fm = 5 ∨ t.fm = 10 ∨ t.fm = 11 then 4 else 0 := by unfold alP; rw [if_neg h8]
    rw [hP]
    generalize t.fm = k at *
    clear hbx hal hb0 ht hP c2 f2
    by_cases e2 : k = 2
    · subst e2
      clear h8
      show Calls _ _ _ _ (fun e w' => e = .returned (.int .i64 1) ∧ Below w.heap.size w w')
      go_enter Tryd.func34, Tryd.ntmps34
      go_wp2
      go_ret
      exact ⟨rfl, HB.out⟩
    by_cases e3 : k = 3
    · subst e3
      clear h8
      show Calls _ _ _ _ (fun e w' => e = .returned (.int .i64 1) ∧ Below w.heap.size w w')
      go_enter Tryd.func34, Tryd.ntmps34
      go_wp2
      go_ret
      exact ⟨rfl, HB.out⟩
    by_cases e4 : k = 4
    · subst e4
      clear h8
      show Calls _ _ _ _ (fun e w' => e = .returned (.int .i64 1) ∧ Below w.heap.size w w')
      go_enter Tryd.func34, Tryd.ntmps34
      go_wp2
      go_ret
      exact ⟨rfl, HB.out⟩
    by_cases e1 : k = 1
    · subst e1
      clear h8
      show Calls _ _ _ _ (fun e w' => e = .returned (.int .i64 4) ∧ Below w.heap.size w w')
      go_enter Tryd.func34, Tryd.ntmps34
      go_wp2
      go_ret
      exact ⟨rfl, HB.out⟩
    by_cases e5 : k = 5
    · subst e5
      clear h8
      show Calls _ _ _ _ (fun e w' => e = .returned (.int .i64 4) ∧ Below w.heap.size w w')
      go_enter Tryd.func34, Tryd.ntmps34
      go_wp2
      go_ret
      exact ⟨rfl, HB.out⟩
    by_cases e10 : k = 10
    · subst e10
      clear h8
      show Calls _ _ _ _ (fun e w' => e = .returned (.int .i64 4) ∧ Below w.heap.size w w')
      go_enter Tryd.func34, Tryd.ntmps34
      go_wp2
      go_ret
      exact ⟨rfl, HB.out⟩
    by_cases e11 : k = 11
    · subst e11
      clear h8
      show Calls _ _ _ _ (fun e w' => e = .returned (.int .i64 4) ∧ Below w.heap.size w w')
      go_enter Tryd.func34, Tryd.ntmps34
      go_wp2
      go_ret
      exact ⟨rfl, HB.out⟩
    have q2 : (k == 2) = false := by simpa using e2
    have r2 : decide (k = 2) = false := decide_eq_false e2
    have q3 : (k == 3) = false := by simpa using e3
    have r3 : decide (k = 3) = false := decide_eq_false e3
    have q4 : (k == 4) = false := by simpa using e4
    have r4 : decide (k = 4) = false := decide_eq_false e4
    have q1 : (k == 1) = false := by simpa using e1
    have r1 : decide (k = 1) = false := decide_eq_false e1
    have q5 : (k == 5) = false := by simpa using e5
    have r5 : decide (k = 5) = false := decide_eq_false e5
    have q10 : (k == 10) = false := by simpa using e10
    have r10 : decide (k = 10) = false := decide_eq_false e10
    have q11 : (k == 11) = false := by simpa using e11
    have r11 : decide (k = 11) = false := decide_eq_false e11
    have q8 : (k == 8) = false := by simpa using h8
    have r8 : decide (k = 8) = false := decide_eq_false h8
    rw [if_neg (by omega), if_neg (by omega)]
    clear h8 e2 e3 e4 e1 e5 e10 e11
    go_enter Tryd.func34, Tryd.ntmps34
    go_wp2
    go_ret
    exact ⟨rfl, HB.out⟩
end Go.Proofs.YtgkfnfilomjphaaDoor
