/-
  The document's disk: a write, a sector behind so many writes, a read.
-/
import Derived.Test.YtbkkjnafnckleaaBRNew
namespace Go.Proofs.Ytbkkjnafnckleaa
open Go.ChangeShapes Go.WideShapes Go.ChangeAt Go.RowKit
attribute [local go_sem ↓] loadSec_seal storeSec_seal eqlSec_seal zeroSec
attribute [local go_sem] loadSec_run storeSec_run rowAt_at rowAt_old rowAt_drew rowAt_drewN roomSec_new roomAt_old roomAt_drew roomAt_drewN putSec_new putRow_past rowSec_put size_put putRow_drew putRow_drewN alloc_drewN setCell_drewN sec_size

set_option linter.unusedVariables false
set_option linter.unusedVariables false

theorem RepR.parts {w : World} {r : Nat} {R : Rk} (h : RepR w r R) : ∃ fa fc wa wc, R.fv = .slice fa R.n fc ∧ R.wv = .slice wa R.m wc ∧ w.cell? ⟨r, 0, none⟩ = some (.slice fa R.n fc) ∧ w.cell? ⟨r, 1, none⟩ = some (.slice wa R.m wc) ∧ r < w.heap.size := by
  obtain ⟨fa, fc, e1⟩ := ownV h.first
  obtain ⟨wa, wc, e2⟩ := ownV h.row
  exact ⟨fa, fc, wa, wc, e1, e2, by rw [← e1]; exact h.cell0.1, by rw [← e2]; exact h.cell1.1, h.lt r (.inl rfl)⟩
set_option maxHeartbeats 2000000 in
theorem rwrite_bad (r : Nat) (R : Rk) (n : Int) (a : Option Addr) (len cap : Nat) (w : World) (h : RepR w r R) (hE : ¬ firstE n R.n len R.m = 0) : Calls Try.prog 73 #[.pointer (some ⟨r, 0, none⟩), .int .i64 n, .slice a len cap] w fun e w' => e = .returned (.int .i64 (firstE n R.n len R.m)) ∧ Below w.heap.size w w' := by
  obtain ⟨fa, fc, wa, wc, _, _, c0, c1, hr⟩ := h.parts
  clear h
  by_cases h0 : n < 0
  · have e : firstE n R.n len R.m = 31 := by unfold firstE placeE; rw [if_pos (Or.inl h0), if_neg (by decide)]
    rw [e]
    clear hE e
    go_enter Try.func73, Try.ntmps73
    go_wp2
    go_ret
    exact ⟨rfl, by go_grown⟩
  · by_cases h1 : (R.n : Int) ≤ n
    · have e : firstE n R.n len R.m = 31 := by unfold firstE placeE; rw [if_pos (Or.inr h1), if_neg (by decide)]
      rw [e]
      clear hE e
      go_enter Try.func73, Try.ntmps73
      go_wp2
      go_ret
      exact ⟨rfl, by go_grown⟩
    · by_cases h2 : (len : Int) = 1024
      · by_cases h3 : 4096 ≤ (R.m : Int)
        · have e : firstE n R.n len R.m = 33 := by
            unfold firstE placeE dataE wearE
            rw [if_neg (by omega : ¬ (n < 0 ∨ (R.n : Int) ≤ n)), if_pos h2, if_pos h3]; rfl
          rw [e]
          clear hE e
          go_enter Try.func73, Try.ntmps73
          go_wp2
          go_ret
          exact ⟨rfl, by go_grown⟩
        · exact absurd (by unfold firstE placeE dataE wearE; rw [if_neg (by omega : ¬ (n < 0 ∨ (R.n : Int) ≤ n)), if_pos h2, if_neg h3]; rfl) hE
      · have e : firstE n R.n len R.m = 32 := by
          unfold firstE placeE dataE
          rw [if_neg (by omega : ¬ (n < 0 ∨ (R.n : Int) ≤ n)), if_neg h2]; rfl
        rw [e]
        clear hE e
        go_enter Try.func73, Try.ntmps73
        go_wp2
        go_ret
        exact ⟨rfl, by go_grown⟩
theorem info69 : (Try.prog.info? 105).map (fun i => (i.zero, i.size, i.bytes)) = some (some (.agg #[.int .i64 0, .string ⟨#[]⟩]), 2, 24) := by kernel_rfl
theorem back_row {Y w5 : World} {r : Nat} {R : Rk} {vs : Obj} (hY : RepR Y r R) (hgrow : (Y.alloc vs).grownBy w5 R.wv.ownBlock) : w5.cell? ⟨r, 1, none⟩ = some R.wv ∧ w5.frozen? ⟨r, 1, none⟩ = false := by
  have r0 : r < Y.heap.size := hY.lt r (.inl rfl)
  have e : w5.heap[r]? = Y.heap[r]? := by
    rw [hgrow.block r (by simp; omega) (fun e => hY.d2 r e.symm rfl), Below.heap_alloc _ _ _ r0]
  exact ⟨(World.cell?_of_block e).trans hY.cell1.1, (World.frozen?_of_block e).trans hY.cell1.2⟩
set_option maxHeartbeats 4000000 in
set_option maxRecDepth 20000 in
theorem rwrite_good (r : Nat) (R : Rk) (n : Nat) (a : Option Addr) (cap : Nat) (f : Nat → Int) (w : World) (h : RepR w r R) (hn : n < R.n) (hm : R.m < 4096) (hf : RdB w a 1024 f) : Calls Try.prog 73 #[.pointer (some ⟨r, 0, none⟩), .int .i64 n, .slice a 1024 cap] w fun e w' => ∃ g c, e = .returned (.int .i64 0) ∧ RepR w' r (R.rowTo n (strF f 1024) g c) ∧ Tou (R.mut r) w w' ∧ (∀ x, (R.rowTo n (strF f 1024) g c).mut r x → R.mut r x ∨ w.heap.size ≤ x) := by
  obtain ⟨i0, hi, hz0, hz1, hz2⟩ := info_parts info69
  obtain ⟨fa, fc, wa, wc, e1, e2, c0, c1, hr⟩ := h.parts
  have HR : Hid (RepR w.drew r R ∧ R.wv = .slice wa R.m wc) := ⟨h.below (Below.refl _ w).drew, e2⟩
  have j0 : (0 : Int) ≤ (n : Int) := by omega
  have j1 : (n : Int) < (R.n : Int) := by omega
  have j2 : (R.m : Int) < 4096 := by omega
  have hx0 := conv_str cap hf
  have hx1 := conv_str (w := w.drew) cap hf
  clear h e1 e2 hf
  go_enter Try.func73, Try.ntmps73
  go_wp2
  go_region_law (refine step_append_lies _ rfl _ _ 74 rfl 0 105 i0 (.agg #[.int .i64 0, .string ⟨#[]⟩]) 2 24 Try.underlying74 hi hz0 hz1 hz2 rfl (by decide) _ R.m (rcells R.wn R.C R.m) rfl (by rw [← HR.out.2]; exact own_same HR.out.1.row (fun x hx => Below.heap_alloc _ _ _ (HR.out.1.lt x (.inr (.inr hx))))) ⟨w.heap.size, 0, none⟩ 1 1 [.int .i64 n, .string (strF f 1024)] rfl rfl (pair_src _ _ _ _ _ rfl) (by simp [Value.oneCell']) (by omega) (by unfold maxLen; omega) (by omega) (Nat.zero_le _) _ rfl ?_; intro g c w5 hown hgrow hat hlt; have hgrow2 := hgrow; rw [← HR.out.2] at hgrow2; obtain ⟨d0, d1⟩ := back_row HR.out.1 hgrow2; have HS : Hid _ := rep_row (n := n) (s := strF f 1024) HR.out.1 hm hown hgrow2 (by rw [HR.out.2]; exact hat.imp id (fun h => by simpa using h)); clear hown hgrow hgrow2 hat hlt)
  all_goals
    go_wp2
    go_ret
    exact ⟨g, c, rfl, HS.out.1, ⟨HS.out.2.1.os, HS.out.2.1.tape, HS.out.2.1.output, HS.out.2.1.size, HS.out.2.1.block⟩, HS.out.2.2⟩
def lastR (R : Rk) : Nat → Nat → ByteArray
  | 0, n => R.F n
  | k + 1, n => if R.wn k = n then R.C k else lastR R k n
theorem RepR.rowAt' {w : World} {r : Nat} {R : Rk} (h : RepR w r R) {k : Nat} (hk : k < R.m) : ∃ rg rc, R.wv = .slice (some ⟨rg, 0, none⟩) R.m rc ∧ w.cell? ⟨rg, k * 2, none⟩ = some (.int .i64 (R.wn k)) ∧ w.cell? ⟨rg, k * 2 + 1, none⟩ = some (.string (R.C k)) := by
  have hr := h.row
  rcases hr.2 with ⟨_, e0⟩ | ⟨g, cap, cur, e, _, _, h4, _⟩
  · omega
  · rw [e] at hr
    have h2 := rcells_at R.wn R.C R.m hk
    refine ⟨g, cap, e, ?_, ?_⟩
    · rw [(own_cell hr (j := k * 2) (by omega)).1]; exact h2.1
    · rw [(own_cell hr (j := k * 2 + 1) (by omega)).1]; exact h2.2
theorem RepR.firstAt {w : World} {r : Nat} {R : Rk} (h : RepR w r R) {n : Nat} (hn : n < R.n) : ∃ fg fc, R.fv = .slice (some ⟨fg, 0, none⟩) R.n fc ∧ w.cell? ⟨fg, n, none⟩ = some (.string (R.F n)) := by
  have hr := h.first
  rcases hr.2 with ⟨_, e0⟩ | ⟨g, cap, cur, e, _⟩
  · omega
  · rw [e] at hr
    exact ⟨g, cap, e, by rw [(own_cell hr (j := n) (by omega)).1, strs_at R.F hn]⟩
set_option maxHeartbeats 4000000 in
theorem rat_any (r : Nat) (R : Rk) (n k : Nat) (w : World) (h : RepR w r R) (hn : n < R.n) (hk : k ≤ R.m) : Calls Try.prog 37 #[.pointer (some ⟨r, 0, none⟩), .int .i64 n, .int .i64 k] w fun e w' => e = .returned (.string (lastR R k n)) ∧ Below w.heap.size w w' := by
  have hm1 := h.m1
  obtain ⟨fa, fc, wa, wc, e1, e2, c0, c1, hr⟩ := h.parts
  obtain ⟨fg, fc', e3, c2⟩ := h.firstAt hn
  rw [e1] at e3
  injection e3 with e4 _ e5
  subst e4 e5
  have HR : Hid (RepR w r R ∧ R.wv = .slice wa R.m wc) := ⟨h, e2⟩
  have j0 : (0 : Int) ≤ (n : Int) := by omega
  have j1 : (n : Int) < (R.n : Int) := by omega
  have ws : IntKind.i64.wrap ((k : Int) - 1) = (k : Int) - 1 := by rw [IntWalk.i64_left, IntWalk.wrap64_in]; omega
  clear h e1 e2
  go_enter Try.func37, Try.ntmps37
  go_wp2
  go_loop [7] (fun i => ∃ j : Nat, j ≤ k ∧ i = .int .i64 ((j : Int) - 1) ∧ lastR R k n = lastR R j n) (fun i => (intOf i + 1).toNat)
  case atStart => exact ⟨k, Nat.le_refl _, rfl, rfl⟩
  case round =>
    obtain ⟨j, hj, rfl, hl⟩ := hrel
    have HL : Hid _ := hl
    clear hl
    cases j with
    | zero =>
      have q0 : ¬ (0 : Int) ≤ ((0 : Nat) : Int) - 1 := by omega
      go_wp2
      go_ret
      exact ⟨by rw [HL.out]; rfl, by go_grown⟩
    | succ j =>
      obtain ⟨rg, rc, e6, c3, c4⟩ := HR.out.1.rowAt' (show j < R.m by omega)
      rw [HR.out.2] at e6
      injection e6 with e7 _ e8
      subst e7 e8
      have ej : ((j + 1 : Nat) : Int) - 1 = (j : Int) := by omega
      rw [ej]
      have q0 : (0 : Int) ≤ (j : Int) := by omega
      have q1 : (j : Int) < (R.m : Int) := by omega
      have ws2 : IntKind.i64.wrap ((j : Int) - 1) = (j : Int) - 1 := by rw [IntWalk.i64_left, IntWalk.wrap64_in]; omega
      by_cases hw : R.wn j = n
      · have q2 : ((R.wn j : Nat) : Int) = (n : Int) := by omega
        go_wp2
        go_ret
        exact ⟨by rw [HL.out]; show _ = Ending.returned (.string (if R.wn j = n then R.C j else lastR R j n)); rw [if_pos hw]; rfl, by go_grown⟩
      · have q2 : ¬ ((R.wn j : Nat) : Int) = (n : Int) := by omega
        go_wp2
        go_round
        case rel => exact ⟨j, by omega, rfl, by rw [HL.out]; show (if R.wn j = n then R.C j else lastR R j n) = _; rw [if_neg hw]⟩
        case measure => first | (simp [intOf]; done) | (simp [intOf]; omega)
theorem rread_bad (r : Nat) (R : Rk) (n : Int) (w : World) (h : RepR w r R) (hn : n < 0 ∨ (0 ≤ n ∧ (R.n : Int) ≤ n)) : Calls Try.prog 12 #[.pointer (some ⟨r, 0, none⟩), .int .i64 n] w fun e w' => e = .returned (.tuple #[.string ⟨#[]⟩, .int .i64 31]) ∧ Below w.heap.size w w' := by
  obtain ⟨fa, fc, wa, wc, _, _, c0, c1, hr⟩ := h.parts
  clear h
  rcases hn with h0 | ⟨h0, h1⟩
  all_goals
    go_enter Try.func12, Try.ntmps12
    go_wp2
    go_ret2
    exact ⟨rfl, by go_grown⟩
theorem rread_good (r : Nat) (R : Rk) (n : Nat) (w : World) (h : RepR w r R) (hn : n < R.n) : Calls Try.prog 12 #[.pointer (some ⟨r, 0, none⟩), .int .i64 n] w fun e w' => e = .returned (.tuple #[.string (lastR R R.m n), .int .i64 0]) ∧ Below w.heap.size w w' := by
  obtain ⟨fa, fc, wa, wc, _, _, c0, c1, hr⟩ := h.parts
  have HR : Hid (RepR w r R) := h
  have j0 : (0 : Int) ≤ (n : Int) := by omega
  have j1 : (n : Int) < (R.n : Int) := by omega
  clear h
  go_enter Try.func12, Try.ntmps12
  go_wp2_with (go_at_call 37; refine (rat_any r R n R.m _ HR.out hn (Nat.le_refl _)).mono ?_; rintro e w1 ⟨rfl, hb⟩)
  go_ret2
  exact ⟨rfl, hb⟩
end Go.Proofs.Ytbkkjnafnckleaa
