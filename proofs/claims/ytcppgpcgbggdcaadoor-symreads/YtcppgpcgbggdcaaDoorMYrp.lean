/-
  Layer 13: the document's reader, how it lies; what its small functions read.
  Layer 13: the document's reader: one byte.
  Layer 13: the document's reader: a constant while it is read.
  Layer 13: the document's reader: a constant.
  Layer 13: the document's reader: rows that grow while it reads.
  Layer 13: the document's reader: a procedure.
-/
import Derived.Test.YtcppgpcgbggdcaaDoorYrt
import Derived.Test.YtcppgpcgbggdcaaDoorYen
import Derived.Deep.CutBlock
import Derived.Deep.CutRange
namespace Go.Proofs.YtcppgpcgbggdcaaDoor
set_option linter.unusedVariables false
set_option linter.unusedSimpArgs false
open Go.ChangeShapes Go.WideShapes Go.ChangeAt Go.RowKit

def rdD (a : Option Addr) (len cap : Nat) (s : St) : Array Value := #[.slice a len cap, .int .i64 (s.p : Int), .int .i64 (if s.st then (s.p : Int) else -1)]
/-- The document's reader in block b, of bytes that lie elsewhere. -/
structure RdD (w : World) (b : Nat) (a : Option Addr) (len cap : Nat) (f : Nat → Int) (s : St) : Prop where
  blk : BA w b 89 (rdD a len cap s)
  src : Src w a len cap f
  fit : len ≤ cap
  le : s.p ≤ len
  small : len ≤ 1048576
  ap : ∀ ad, a = some ad → ad.block ≠ b ∧ ad.block < w.heap.size
section
variable {w w' : World} {b len cap : Nat} {a : Option Addr} {f : Nat → Int} {s : St}
theorem RdD.bl (h : RdD w b a len cap f s) : b < w.heap.size := h.blk.lt
theorem RdD.below (h : RdD w b a len cap f s) (hb : Below w.heap.size w w') : RdD w' b a len cap f s :=
  ⟨h.blk.below hb, h.src.keep fun ad he => hb.block _ (h.ap ad he).2, h.fit, h.le, h.small, fun ad he => ⟨(h.ap ad he).1, Nat.lt_of_lt_of_le (h.ap ad he).2 hb.size⟩⟩
theorem RdD.tq {P : Nat → Prop} (h : RdD w b a len cap f s) (t : Tq w w' P) (hp : ¬ P b) (hq : ∀ ad, a = some ad → ¬ P ad.block) : RdD w' b a len cap f s :=
  ⟨h.blk.tq t hp, h.src.keep fun ad he => t.blk _ (h.ap ad he).2 (hq ad he), h.fit, h.le, h.small, fun ad he => ⟨(h.ap ad he).1, Nat.lt_of_lt_of_le (h.ap ad he).2 t.size⟩⟩
theorem RdD.setP (h : RdD w b a len cap f s) (hs : s.st = false) (n : Nat) (hn : n ≤ len) : RdD (w.setCell ⟨b, 1, none⟩ (.int .i64 (n : Int))) b a len cap f ⟨n, false⟩ := by
  refine ⟨?_, h.src.keep fun ad he => Below.heap_setCell _ _ _ _ (h.ap ad he).1, h.fit, hn, h.small, fun ad he => ⟨(h.ap ad he).1, by simpa using (h.ap ad he).2⟩⟩
  have := h.blk.set (j := 1) (.int .i64 (n : Int))
  rw [show (rdD a len cap s).setIfInBounds 1 (.int .i64 (n : Int)) = rdD a len cap ⟨n, false⟩ by simp [rdD, hs]] at this
  exact this
theorem RdD.setS (h : RdD w b a len cap f s) : RdD (w.setCell ⟨b, 2, none⟩ (.int .i64 (s.p : Int))) b a len cap f ⟨s.p, true⟩ := by
  refine ⟨?_, h.src.keep fun ad he => Below.heap_setCell _ _ _ _ (h.ap ad he).1, h.fit, h.le, h.small, fun ad he => ⟨(h.ap ad he).1, by simpa using (h.ap ad he).2⟩⟩
  have := h.blk.set (j := 2) (.int .i64 (s.p : Int))
  rw [show (rdD a len cap s).setIfInBounds 2 (.int .i64 (s.p : Int)) = rdD a len cap ⟨s.p, true⟩ by simp [rdD]] at this
  exact this
end
/-- What a reading function leaves. -/
def PostRd (w : World) (b : Nat) (a : Option Addr) (len cap : Nat) (f : Nat → Int) (v : Value) (s : St) (e : Ending) (w' : World) : Prop := e = .returned v ∧ RdD w' b a len cap f s ∧ w.grownBy w' (some b)
theorem PostRd.up {w w0 : World} {b len cap : Nat} {a : Option Addr} {f : Nat → Int} {s : St} {w' : World} (hb : Below w.heap.size w w0) (hr : RdD w' b a len cap f s) (hg : w0.grownBy w' (some b)) (v : Value) : PostRd w b a len cap f v s (.returned v) w' := ⟨rfl, hr, gb_trans (gb_of_below hb b) hg⟩
theorem st_true {s : St} (h : s.st = true) : s = ⟨s.p, true⟩ := by rw [← h]
set_option maxHeartbeats 1000000 in
theorem wrong_any (w : World) (b len cap : Nat) (a : Option Addr) (f : Nat → Int) (s : St) (h : RdD w b a len cap f s) :
    Calls Tryd.prog 47 #[.pointer (some ⟨b, 0, none⟩)] w (PostRd w b a len cap f (.tuple #[]) ⟨s.p, true⟩) := by
  have c1 : w.cell? ⟨b, 1, none⟩ = some (.int .i64 (s.p : Int)) := h.blk.cell 1
  have z2 := h.blk.fz 2
  cases hst : s.st
  · have c2 : w.cell? ⟨b, 2, none⟩ = some (.int .i64 (-1)) := by rw [h.blk.cell 2]; simp [rdD, hst]
    have H := hid_of h.setS
    clear h
    go_enter Tryd.func47, Tryd.ntmps47
    go_wp2
    go_end0
    exact ⟨rfl, H.out, gb_set (gb_of_below (Below.refl _ _) _)⟩
  · have c2 : w.cell? ⟨b, 2, none⟩ = some (.int .i64 (s.p : Int)) := by rw [h.blk.cell 2]; simp [rdD, hst]
    have H : Hid (RdD w b a len cap f ⟨s.p, true⟩) := hid_of (by rw [← st_true hst]; exact h)
    have d1 : decide ((s.p : Int) < 0) = false := decide_eq_false (by omega)
    clear h
    go_enter Tryd.func47, Tryd.ntmps47
    go_wp2
    go_end0
    exact ⟨rfl, H.out, gb_of_below (Below.refl _ _) _⟩
set_option maxHeartbeats 2000000 in
theorem dnumber_any (w : World) (b len cap : Nat) (a : Option Addr) (f : Nat → Int) (s : St) (h : RdD w b a len cap f s) (most : Int) (m0 : 0 ≤ most) (m1 : most ≤ 4294967295) :
    Calls Tryd.prog 43 #[.pointer (some ⟨b, 0, none⟩), .int .u32 most] w (PostRd w b a len cap f (.int .i64 (numS f len most s).1) (numS f len most s).2) := by
  have c0 : w.cell? ⟨b, 0, none⟩ = some (.slice a len cap) := h.blk.cell 0
  have c1 : w.cell? ⟨b, 1, none⟩ = some (.int .i64 (s.p : Int)) := h.blk.cell 1
  have z1 := h.blk.fz 1
  cases hst : s.st
  · have c2 : w.cell? ⟨b, 2, none⟩ = some (.int .i64 (-1)) := by rw [h.blk.cell 2]; simp [rdD, hst]
    have NU : Hid (∀ k, Calls Tryd.prog 74 #[.slice a len cap, .int .i64 (s.p : Int)] (w.drewN k) _) := fun k => rnumber_any a len cap f s.p (w.drewN k) (h.src.below (bdn (Below.refl _ _) k)) h.fit
    have WR : Hid (∀ X, Below w.heap.size w X → Calls Tryd.prog 47 #[.pointer (some ⟨b, 0, none⟩)] X (PostRd X b a len cap f (.tuple #[]) ⟨s.p, true⟩)) := fun X hX => wrong_any X b len cap a f s (h.below hX)
    have hbd : ∀ n i, uintR f len s.p = some (n, i) → 0 ≤ n ∧ n ≤ 4294967295 ∧ s.p + i ≤ len := fun n i e => by
      have := uintR_bd e; omega
    have SP : Hid (∀ k n, n ≤ len → RdD ((w.drewN k).setCell ⟨b, 1, none⟩ (.int .i64 ((n : Nat) : Int))) b a len cap f ⟨n, false⟩) := fun k n hn => (h.below (bdn (Below.refl _ _) k)).setP hst n hn
    unfold numS
    simp only [hst, Bool.not_false, Bool.true_and]
    clear h
    generalize uintR f len s.p = R at *
    cases R with
    | none =>
      clear hbd SP
      go_enter Tryd.func43, Tryd.ntmps43
      go_wp2
      go_quiet ((go_at_call 74; exact Calls.quiet_of_same (NU.out _)))
      go_wp2_with (go_at_call 47; refine (WR.out _ (bdn (Below.refl _ _) _)).mono ?_; rintro e w1 ⟨rfl, hr, hg⟩)
      go_ret
      exact PostRd.up (bdn (Below.refl _ _) _) hr hg _
    | some r =>
      obtain ⟨n, i⟩ := r
      obtain ⟨n0, n1, hi⟩ := hbd n i rfl
      clear hbd
      have hN : uN (some (n, i)) = n := rfl
      have hP : uP (s.p : Int) (some (n, i)) = ((s.p + i : Nat) : Int) := by simp [uP]
      have hB : uB (some (n, i)) = true := rfl
      rw [hN, hP, hB] at NU
      clear hN hP hB
      by_cases hle : n ≤ most
      · have d1 : decide (n ≤ most) = true := decide_eq_true hle
        have d2 : decide (most < n) = false := decide_eq_false (by omega)
        have d3 : IntKind.i64.wrap n = n := by rw [IntWalk.i64_left, IntWalk.wrap64_in] <;> omega
        simp only [d1, if_true]
        generalize s.p + i = qm at *
        go_enter Tryd.func43, Tryd.ntmps43
        go_wp2
        go_quiet ((go_at_call 74; exact Calls.quiet_of_same (NU.out _)))
        go_wp2
        go_ret
        exact ⟨rfl, SP.out _ _ hi, gb_set (gb_of_below (bdn (Below.refl _ _) _) _)⟩
      · have d1 : decide (n ≤ most) = false := decide_eq_false hle
        have d2 : decide (most < n) = true := decide_eq_true (by omega)
        clear SP
        simp only [d1, Bool.false_eq_true, if_false]
        go_enter Tryd.func43, Tryd.ntmps43
        go_wp2
        go_quiet ((go_at_call 74; exact Calls.quiet_of_same (NU.out _)))
        go_wp2_with (go_at_call 47; refine (WR.out _ (bdn (Below.refl _ _) _)).mono ?_; rintro e w1 ⟨rfl, hr, hg⟩)
        go_ret
        exact PostRd.up (bdn (Below.refl _ _) _) hr hg _
  · have c2 : w.cell? ⟨b, 2, none⟩ = some (.int .i64 (s.p : Int)) := by rw [h.blk.cell 2]; simp [rdD, hst]
    have H : Hid (RdD w b a len cap f ⟨s.p, true⟩) := hid_of (by rw [← st_true hst]; exact h)
    have d1 : decide ((0 : Int) ≤ (s.p : Int)) = true := decide_eq_true (by omega)
    have hS : numS f len most s = (0, ⟨s.p, true⟩) := by
      unfold numS
      cases uintR f len s.p with
      | none => rfl
      | some r => simp [hst]
    rw [hS]
    clear h hS
    go_enter Tryd.func43, Tryd.ntmps43
    go_wp2
    go_ret
    exact ⟨rfl, H.out, gb_of_below (Below.refl _ _) _⟩
set_option maxHeartbeats 2000000 in
theorem dtext_any (w : World) (b len cap : Nat) (a : Option Addr) (f : Nat → Int) (s : St) (h : RdD w b a len cap f s) (most : Int) (m0 : 0 ≤ most) (m1 : most ≤ 65536) :
    Calls Tryd.prog 42 #[.pointer (some ⟨b, 0, none⟩), .int .i64 most] w (PostRd w b a len cap f (.string (textS f len most s).1) (textS f len most s).2) := by
  have c0 : w.cell? ⟨b, 0, none⟩ = some (.slice a len cap) := h.blk.cell 0
  have c1 : w.cell? ⟨b, 1, none⟩ = some (.int .i64 (s.p : Int)) := h.blk.cell 1
  have z1 := h.blk.fz 1
  cases hst : s.st
  · have c2 : w.cell? ⟨b, 2, none⟩ = some (.int .i64 (-1)) := by rw [h.blk.cell 2]; simp [rdD, hst]
    have TX : Hid (∀ k, Calls Tryd.prog 73 #[.slice a len cap, .int .i64 (s.p : Int), .int .i64 most] (w.drewN k) _) := fun k => rtext_any a len cap f s.p most (w.drewN k) (h.src.below (bdn (Below.refl _ _) k)) h.fit (by omega) (by omega)
    have WR : Hid (∀ X, Below w.heap.size w X → Calls Tryd.prog 47 #[.pointer (some ⟨b, 0, none⟩)] X (PostRd X b a len cap f (.tuple #[]) ⟨s.p, true⟩)) := fun X hX => wrong_any X b len cap a f s (h.below hX)
    have hbd : ∀ q m, textR f len s.p most = some (q, m) → q + m ≤ len := fun q m e => by
      unfold textR at e
      cases hu : uintR f len s.p with
      | none => rw [hu] at e; cases e
      | some r =>
        obtain ⟨n, i⟩ := r
        rw [hu] at e
        have := uintR_bd hu
        simp only at e
        split at e
        · rename_i hc
          injection e with e
          injection e with e1 e2
          omega
        · cases e
    have SP : Hid (∀ k n, n ≤ len → RdD ((w.drewN k).setCell ⟨b, 1, none⟩ (.int .i64 ((n : Nat) : Int))) b a len cap f ⟨n, false⟩) := fun k n hn => (h.below (bdn (Below.refl _ _) k)).setP hst n hn
    unfold textS
    simp only [hst, Bool.not_false, if_true]
    clear h
    generalize textR f len s.p most = R at *
    cases R with
    | none =>
      clear hbd SP
      go_enter Tryd.func42, Tryd.ntmps42
      go_wp2
      go_quiet ((go_at_call 73; exact Calls.quiet_of_same (TX.out _)))
      go_wp2_with (go_at_call 47; refine (WR.out _ (bdn (Below.refl _ _) _)).mono ?_; rintro e w1 ⟨rfl, hr, hg⟩)
      go_ret
      exact PostRd.up (bdn (Below.refl _ _) _) hr hg _
    | some r =>
      obtain ⟨q, m⟩ := r
      have hi := hbd q m rfl
      clear hbd
      have hP : tP (some (q, m)) = ((q + m : Nat) : Int) := rfl
      have hB : tB (some (q, m)) = true := rfl
      rw [hP, hB] at TX
      show Calls Tryd.prog 42 _ _ (PostRd w b a len cap f (.string (tS f (some (q, m)))) ⟨q + m, false⟩)
      generalize tS f (some (q, m)) = ts at *
      generalize q + m = qm at *
      clear hP hB
      go_enter Tryd.func42, Tryd.ntmps42
      go_wp2
      go_quiet ((go_at_call 73; exact Calls.quiet_of_same (TX.out _)))
      go_wp2
      go_ret
      exact ⟨rfl, SP.out _ _ hi, gb_set (gb_of_below (bdn (Below.refl _ _) _) _)⟩
  · have c2 : w.cell? ⟨b, 2, none⟩ = some (.int .i64 (s.p : Int)) := by rw [h.blk.cell 2]; simp [rdD, hst]
    have H : Hid (RdD w b a len cap f ⟨s.p, true⟩) := hid_of (by rw [← st_true hst]; exact h)
    have d1 : decide ((0 : Int) ≤ (s.p : Int)) = true := decide_eq_true (by omega)
    have hS : textS f len most s = (⟨#[]⟩, ⟨s.p, true⟩) := by
      unfold textS
      cases textR f len s.p most with
      | none => rfl
      | some r => simp [hst]
    rw [hS]
    clear h hS
    go_enter Tryd.func42, Tryd.ntmps42
    go_wp2
    go_ret
    exact ⟨rfl, H.out, gb_of_below (Below.refl _ _) _⟩
end Go.Proofs.YtcppgpcgbggdcaaDoor

namespace Go.Proofs.YtcppgpcgbggdcaaDoor
set_option linter.unusedVariables false
set_option linter.unusedSimpArgs false
open Go.ChangeShapes Go.WideShapes Go.ChangeAt Go.RowKit

def rgB (lo hi x : Int) : Bool := decide (lo ≤ x) && decide (x ≤ hi)
set_option maxHeartbeats 8000000 in
set_option maxRecDepth 20000 in
theorem done_any (w : World) (b len cap : Nat) (a : Option Addr) (f : Nat → Int) (s : St) (h : RdD w b a len cap f s) (lo hi : Int) (l0 : 0 ≤ lo ∧ lo ≤ 255) (h0 : 0 ≤ hi ∧ hi ≤ 255) :
    Calls Tryd.prog 45 #[.pointer (some ⟨b, 0, none⟩), .int .u8 lo, .int .u8 hi] w (PostRd w b a len cap f (.int .i64 (octP f len (rgB lo hi) s).1) (octP f len (rgB lo hi) s).2) := by
  have c0 : w.cell? ⟨b, 0, none⟩ = some (.slice a len cap) := h.blk.cell 0
  have c1 : w.cell? ⟨b, 1, none⟩ = some (.int .i64 (s.p : Int)) := h.blk.cell 1
  have z1 := h.blk.fz 1
  have hsm := h.small
  have hle := h.le
  have WR : Hid (∀ X, Below w.heap.size w X → Calls Tryd.prog 47 #[.pointer (some ⟨b, 0, none⟩)] X (PostRd X b a len cap f (.tuple #[]) ⟨s.p, true⟩)) := fun X hX => wrong_any X b len cap a f s (h.below hX)
  cases hst : s.st
  · have c2 : w.cell? ⟨b, 2, none⟩ = some (.int .i64 (-1)) := by rw [h.blk.cell 2]; simp [rdD, hst]
    by_cases hlt : s.p < len
    · have hr := h.src.rd.2
      rcases hr with e0 | ⟨q, off, rfl, hc⟩
      · omega
      obtain ⟨cq, f0, f1⟩ := hc s.p hlt
      have hap := h.ap _ rfl
      have SP : Hid (∀ X, Below w.heap.size w X → RdD (X.setCell ⟨b, 1, none⟩ (.int .i64 ((s.p : Int) + 1))) b (some ⟨q, off, none⟩) len cap f ⟨s.p + 1, false⟩) := fun X hX => by
        have := (h.below hX).setP hst (s.p + 1) (by omega)
        rw [show ((s.p + 1 : Nat) : Int) = (s.p : Int) + 1 by omega] at this
        exact this
      have CQ : Hid (∀ Z, RdD Z b (some ⟨q, off, none⟩) len cap f ⟨s.p + 1, false⟩ → Z.cell? ⟨q, off + s.p, none⟩ = some (.int .u8 (f s.p))) := fun Z hZ => by
        rcases hZ.src.rd.2 with e0 | ⟨q2, off2, e2, hc2⟩
        · omega
        · injection e2 with e2; injection e2 with e3 e4
          subst e3 e4
          exact (hc2 s.p hlt).1
      clear h hc hap
      have d1 : decide ((len : Int) ≤ (s.p : Int)) = false := decide_eq_false (by omega)
      have d1n : decide (len ≤ s.p) = false := decide_eq_false (by omega)
      have n1 : ¬ len ≤ s.p := by omega
      have d2 : decide (s.p < len) = true := decide_eq_true hlt
      have i0 : (0 : Int) ≤ (s.p : Int) := by omega
      have i1 : (s.p : Int) < (len : Int) := by omega
      unfold octP
      simp only [hst, Bool.not_false, Bool.true_and, d2]
      by_cases hL : lo ≤ f s.p
      · have dL : decide (f s.p < lo) = false := decide_eq_false (by omega)
        by_cases hH : f s.p ≤ hi
        · have dH : decide (hi < f s.p) = false := decide_eq_false (by omega)
          have hR : rgB lo hi (f s.p) = true := by unfold rgB; rw [decide_eq_true hL, decide_eq_true hH]; rfl
          have e1 : IntKind.i64.wrap ((s.p : Int) + 1) = s.p + 1 := by rw [IntWalk.i64_left, IntWalk.wrap64_in]; omega
          have e2 : IntKind.i64.wrap ((s.p : Int) + 1 - 1) = s.p := by rw [IntWalk.i64_left, IntWalk.wrap64_in] <;> omega
          have e3 : IntKind.i64.wrap (f s.p) = f s.p := by rw [IntWalk.i64_left, IntWalk.wrap64_in] <;> omega
          simp only [hR, if_true]
          go_enter Tryd.func45, Tryd.ntmps45
          go_wp2_with fail
          go_quiet (fail)
          generalize hX : w.drewN nq = X
          have hb : Below w.heap.size w X := by rw [← hX]; exact bdn (Below.refl _ _) _
          have HS := hid_of (SP.out X hb)
          have x1 : X.cell? ⟨b, 1, none⟩ = some (.int .i64 (s.p : Int)) := by rw [← hX]; exact c1
          have y1 : X.frozen? ⟨b, 1, none⟩ = false := by rw [← hX]; exact z1
          clear hX WR c0 c1 c2 z1 SP
          go_wp2_with fail
          generalize hZ : X.setCell ⟨b, 1, none⟩ (.int .i64 ((s.p : Int) + 1)) = Z at HS ⊢
          have k0 : Z.cell? ⟨b, 0, none⟩ = some (.slice (some ⟨q, off, none⟩) len cap) := HS.out.blk.cell 0
          have k1 : Z.cell? ⟨b, 1, none⟩ = some (.int .i64 ((s.p : Int) + 1)) := by have := HS.out.blk.cell 1; simpa [rdD] using this
          have kq := CQ.out Z HS.out
          have hg : w.grownBy Z (some b) := by rw [← hZ]; exact gb_set (gb_of_below hb _)
          have HG := hid_of hg
          clear hZ hg cq x1 y1
          go_quiet (fail)
          go_wp2
          go_ret
          exact ⟨rfl, HS.out.below (bdn (Below.refl _ _) _), gb_trans HG.out (gb_of_below (bdn (Below.refl _ _) _) _)⟩
        · have dH : decide (hi < f s.p) = true := decide_eq_true (by omega)
          have hR : rgB lo hi (f s.p) = false := by unfold rgB; rw [decide_eq_false hH, Bool.and_false]
          simp only [hR, Bool.false_eq_true, if_false]
          clear SP CQ
          go_enter Tryd.func45, Tryd.ntmps45
          go_wp2_with fail
          go_quiet (fail)
          generalize hX : w.drewN nq = X
          have hb : Below w.heap.size w X := by rw [← hX]; exact bdn (Below.refl _ _) _
          have WX := hid_of (WR.out X hb)
          clear hX WR c0 c1 c2 z1
          go_wp2_with (go_at_call 47; refine WX.out.mono ?_; rintro e w1 ⟨rfl, hr, hg⟩)
          go_ret
          exact PostRd.up hb hr hg _
      · have dL : decide (f s.p < lo) = true := decide_eq_true (by omega)
        have hR : rgB lo hi (f s.p) = false := by unfold rgB; rw [decide_eq_false hL, Bool.false_and]
        simp only [hR, Bool.false_eq_true, if_false]
        clear SP CQ
        go_enter Tryd.func45, Tryd.ntmps45
        go_wp2_with fail
        go_quiet (fail)
        generalize hX : w.drewN nq = X
        have hb : Below w.heap.size w X := by rw [← hX]; exact bdn (Below.refl _ _) _
        have WX := hid_of (WR.out X hb)
        clear hX WR c0 c1 c2 z1
        go_wp2_with (go_at_call 47; refine WX.out.mono ?_; rintro e w1 ⟨rfl, hr, hg⟩)
        go_ret
        exact PostRd.up hb hr hg _
    · have d1 : decide ((len : Int) ≤ (s.p : Int)) = true := decide_eq_true (by omega)
      have d1n : decide (len ≤ s.p) = true := decide_eq_true (by omega)
      have n1 : len ≤ s.p := by omega
      have d2 : decide (s.p < len) = false := decide_eq_false hlt
      clear h
      unfold octP
      simp only [d2, Bool.false_and, Bool.and_false, Bool.false_eq_true, if_false]
      go_enter Tryd.func45, Tryd.ntmps45
      go_wp2_with fail
      go_quiet (fail)
      generalize hX : w.drewN nq = X
      have hb : Below w.heap.size w X := by rw [← hX]; exact bdn (Below.refl _ _) _
      have WX := hid_of (WR.out X hb)
      clear hX WR c0 c1 c2 z1
      go_wp2_with (go_at_call 47; refine WX.out.mono ?_; rintro e w1 ⟨rfl, hr, hg⟩)
      go_ret
      exact PostRd.up hb hr hg _
  · have c2 : w.cell? ⟨b, 2, none⟩ = some (.int .i64 (s.p : Int)) := by rw [h.blk.cell 2]; simp [rdD, hst]
    have d0 : decide ((0 : Int) ≤ (s.p : Int)) = true := decide_eq_true (by omega)
    clear h
    unfold octP
    simp only [hst, Bool.not_true, Bool.false_and, Bool.false_eq_true, if_false]
    go_enter Tryd.func45, Tryd.ntmps45
    go_wp2_with fail
    go_quiet (fail)
    generalize hX : w.drewN nq = X
    have hb : Below w.heap.size w X := by rw [← hX]; exact bdn (Below.refl _ _) _
    have WX := hid_of (WR.out X hb)
    clear hX WR c0 c1 c2 z1
    go_wp2_with (go_at_call 47; refine WX.out.mono ?_; rintro e w1 ⟨rfl, hr, hg⟩)
    go_ret
    exact PostRd.up hb hr hg _
end Go.Proofs.YtcppgpcgbggdcaaDoor

namespace Go.Proofs.YtcppgpcgbggdcaaDoor
set_option linter.unusedVariables false
set_option linter.unusedSimpArgs false
open Go.ChangeShapes Go.WideShapes Go.ChangeAt Go.RowKit
attribute [local go_sem ↓] ldC_seal stC_seal

/-- While a constant is read: the answer's place, the constant in a box, the reader. -/
structure KC (w X : World) (b len cap : Nat) (a : Option Addr) (f : Nat → Int) (g : Nat) (x : Cn) (s : St) : Prop where
  rd : RdD X b a len cap f s
  rs : BA X w.heap.size 53 zeroC
  bx : BA X g 53 (cEnc x)
  gb : w.grownBy X (some b)
  bl : b < w.heap.size
  al : ∀ ad, a = some ad → ad.block < w.heap.size
  lt : w.heap.size < g
section
variable {w X Y : World} {b len cap g : Nat} {a : Option Addr} {f : Nat → Int} {x : Cn} {s : St}
theorem KC.below (h : KC w X b len cap a f g x s) (hb : Below X.heap.size X Y) : KC w Y b len cap a f g x s :=
  ⟨h.rd.below hb, h.rs.below hb, h.bx.below hb, gb_trans h.gb (gb_of_below hb b), h.bl, h.al, h.lt⟩
theorem KC.call {t : St} (h : KC w X b len cap a f g x s) (hr : RdD Y b a len cap f t) (hg : X.grownBy Y (some b)) : KC w Y b len cap a f g x t :=
  ⟨hr, h.rs.keep hg (by have := h.bl; omega), h.bx.keep hg (by have := h.bl; have := h.lt; omega), gb_trans h.gb hg, h.bl, h.al, h.lt⟩
theorem KC.put (h : KC w X b len cap a f g x s) (j : Nat) (v : Value) (y : Cn) (hy : (cEnc x).setIfInBounds j v = cEnc y) : KC w (X.setCell ⟨g, j, none⟩ v) b len cap a f g y s := by
  have t : Tq X (X.setCell ⟨g, j, none⟩ v) (fun k => k = g) := Tq.set rfl
  have hl := h.lt
  have hb := h.bl
  refine ⟨h.rd.tq t (by omega) (fun ad he => by have := h.al ad he; omega), h.rs.tq t (by omega), hy ▸ h.bx.set v, ?_, hb, h.al, hl⟩
  exact ⟨h.gb.os, h.gb.tape, h.gb.output, by simpa using h.gb.size, fun k hk hne => (t.blk k (Nat.lt_of_lt_of_le hk h.gb.size) (by omega)).trans (h.gb.block k hk hne)⟩
/-- The box, laid. -/
theorem KC.start (h : RdD w b a len cap f s) {t : St} (hr : RdD X b a len cap f t) (hg : (w.alloc (.cells zeroC 53)).grownBy X (some b)) (nm : ByteArray) : ∃ Z, (stT 53 ⟨X.heap.size, 0, none⟩ (.agg (cEnc ⟨nm, 0, 0, ⟨#[]⟩, true⟩))).run Tryd.prog (X.alloc (.cells zeroC 53)) = .ok () Z ∧ KC w Z b len cap a f X.heap.size ⟨nm, 0, 0, ⟨#[]⟩, true⟩ t := by
  obtain ⟨Z, z1, z2, z3⟩ := stT_run (w := X.alloc (.cells zeroC 53)) (cEnc ⟨nm, 0, 0, ⟨#[]⟩, true⟩) (BA.new X _ zeroC) rfl (by kernel_rfl) (by simp [cEnc, Value.oneCell'])
  have bV : Below X.heap.size X Z := ((Below.refl _ _).alloc (Nat.le_refl _) _).trans (z3.bel (by simp) (Nat.le_refl _))
  have hs := hg.size
  simp at hs
  have hbl := h.bl
  have r0 : BA X w.heap.size 53 zeroC := (BA.new w _ zeroC).keep hg (by omega)
  have g0 : w.grownBy X (some b) := gb_trans (gb_of_below ((Below.refl _ _).alloc (Nat.le_refl _) _) b) hg
  exact ⟨Z, z1, hr.below bV, r0.below bV, z2, gb_trans g0 (gb_of_below bV b), hbl, fun ad he => (h.ap ad he).2, by omega⟩
/-- The box, handed back. -/
theorem KC.fin (h : KC w X b len cap a f g x s) : (ldT 53 ⟨g, 0, none⟩).run Tryd.prog X = .ok (.agg (cEnc x)) X ∧ ∃ Z, (stT 53 ⟨w.heap.size, 0, none⟩ (.agg (cEnc x))).run Tryd.prog X = .ok () Z ∧ BA Z w.heap.size 53 (cEnc x) ∧ RdD Z b a len cap f s ∧ w.grownBy Z (some b) := by
  obtain ⟨Z, z1, z2, z3⟩ := stT_run (cEnc x) h.rs rfl (by kernel_rfl) (by simp [cEnc, Value.oneCell'])
  have hb := h.bl
  exact ⟨ldT_run h.bx Tryd.underlying53 rfl (by kernel_rfl), Z, z1, z2, h.rd.tq z3 (by omega) (fun ad he => by have := h.al ad he; omega), z3.gbn h.gb (Nat.le_refl _)⟩
end
/-- What a constant's reading leaves: it is told only where the reader is not stuck. -/
def PostCn (w : World) (b : Nat) (a : Option Addr) (len cap : Nat) (f : Nat → Int) (r : Cn × St) (e : Ending) (w' : World) : Prop := ∃ x : Cn, e = .returned (.agg (cEnc x)) ∧ (r.2.st = false → x = r.1) ∧ RdD w' b a len cap f r.2 ∧ w.grownBy w' (some b)
end Go.Proofs.YtcppgpcgbggdcaaDoor

namespace Go.Proofs.YtcppgpcgbggdcaaDoor
set_option linter.unusedVariables false
set_option linter.unusedSimpArgs false
open Go.ChangeShapes Go.WideShapes Go.ChangeAt Go.RowKit
attribute [local go_sem ↓] ldC_seal stC_seal

theorem wordS_st (f : Nat → Int) (len : Nat) (p : Nat) : wordS f len ⟨p, true⟩ = (0, ⟨p, true⟩) := by unfold wordS; simp
theorem octP_st (f : Nat → Int) (len : Nat) (P : Int → Bool) (p : Nat) : octP f len P ⟨p, true⟩ = (0, ⟨p, true⟩) := by unfold octP; simp
theorem conS_stuck {f : Nat → Int} {len : Nat} {s : St} (h : octP f len conB (textS f len 20 s).2 = (0, ⟨(textS f len 20 s).2.p, true⟩)) : (conS f len s).2 = ⟨(textS f len 20 s).2.p, true⟩ := by
  unfold conS
  simp only [h, wordS_st]
  rfl
theorem con_text {w : World} {b len cap : Nat} {a : Option Addr} {f : Nat → Int} {s : St} (h : RdD w b a len cap f s) : Calls Tryd.prog 42 #[.pointer (some ⟨b, 0, none⟩), .int .i64 20] (w.alloc (.cells zeroC 53)) fun e X => ∃ Z, e = .returned (.string (textS f len 20 s).1) ∧ (stT 53 ⟨X.heap.size, 0, none⟩ (.agg (cEnc ⟨(textS f len 20 s).1, 0, 0, ⟨#[]⟩, true⟩))).run Tryd.prog (X.alloc (.cells zeroC 53)) = .ok () Z ∧ Hid (KC w Z b len cap a f X.heap.size ⟨(textS f len 20 s).1, 0, 0, ⟨#[]⟩, true⟩ (textS f len 20 s).2) :=
  (dtext_any _ b len cap a f s (h.below ((Below.refl _ _).alloc (Nat.le_refl _) _)) 20 (by omega) (by omega)).mono fun e X hh => by
    obtain ⟨Z, z1, z2⟩ := KC.start h hh.2.1 hh.2.2 (textS f len 20 s).1
    exact ⟨Z, hh.1, z1, z2⟩
theorem KC.wrong {w X : World} {b len cap g : Nat} {a : Option Addr} {f : Nat → Int} {x : Cn} {s : St} (h : KC w X b len cap a f g x s) : Calls Tryd.prog 47 #[.pointer (some ⟨b, 0, none⟩)] X fun e Y => e = .returned (.tuple #[]) ∧ Hid (KC w Y b len cap a f g x ⟨s.p, true⟩) := (wrong_any X b len cap a f s h.rd).mono fun e Y hh => ⟨hh.1, h.call hh.2.1 hh.2.2⟩
theorem KC.one {w X : World} {b len cap g : Nat} {a : Option Addr} {f : Nat → Int} {x : Cn} {s : St} (h : KC w X b len cap a f g x s) : Calls Tryd.prog 45 #[.pointer (some ⟨b, 0, none⟩), .int .u8 1, .int .u8 7] X fun e Y => e = .returned (.int .i64 (octP f len (rgB 1 7) s).1) ∧ Hid (KC w Y b len cap a f g x (octP f len (rgB 1 7) s).2) := (done_any X b len cap a f s h.rd 1 7 (by omega) (by omega)).mono fun e Y hh => ⟨hh.1, h.call hh.2.1 hh.2.2⟩
theorem octP_end {f : Nat → Int} {len : Nat} (P : Int → Bool) {s : St} (h : len ≤ s.p) : octP f len P s = (0, ⟨s.p, true⟩) := by unfold octP; simp [show ¬ s.p < len by omega]
theorem octP_no {f : Nat → Int} {len : Nat} {P : Int → Bool} {s : St} (h : P (f s.p) = false) : octP f len P s = (0, ⟨s.p, true⟩) := by unfold octP; simp [h]
theorem octP_yes {f : Nat → Int} {len : Nat} {P : Int → Bool} {s : St} (hs : s.st = false) (hp : s.p < len) (h : P (f s.p) = true) : octP f len P s = (f s.p, ⟨s.p + 1, false⟩) := by unfold octP; simp [hs, hp, h]
theorem con_rg {v : Int} (h4 : v ≠ 4) (h6 : v ≠ 6) : conB v = rgB 1 7 v := by
  unfold conB valB rgB
  by_cases h : v = 1 ∨ v = 2 ∨ v = 3 ∨ v = 5 ∨ v = 7
  · rcases h with rfl | rfl | rfl | rfl | rfl <;> rfl
  · rw [if_neg (by omega), if_neg (by omega), if_neg (by omega), if_neg (by omega), if_neg (by omega)]
    have : ¬ (1 ≤ v ∧ v ≤ 7) := by omega
    by_cases h1 : 1 ≤ v
    · rw [decide_eq_true h1, decide_eq_false (show ¬ v ≤ 7 by omega)]; rfl
    · rw [decide_eq_false h1]; rfl
theorem conS_of {f : Nat → Int} {len : Nat} {s : St} {v : Int} {t : St} (h : octP f len conB (textS f len 20 s).2 = (v, t)) : conS f len s = if v = 7 then (⟨(textS f len 20 s).1, v, 0, (textS f len 200 t).1, true⟩, (textS f len 200 t).2) else if v = 1 then (⟨(textS f len 20 s).1, v, sext (wordS f len t).1 32, ⟨#[]⟩, true⟩, (wordS f len t).2) else (⟨(textS f len 20 s).1, v, (wordS f len t).1, ⟨#[]⟩, true⟩, (wordS f len t).2) := by
  unfold conS
  simp only [h]
theorem KC.text {w X : World} {b len cap g : Nat} {a : Option Addr} {f : Nat → Int} {x : Cn} {s : St} (h : KC w X b len cap a f g x s) : Calls Tryd.prog 42 #[.pointer (some ⟨b, 0, none⟩), .int .i64 200] X fun e Y => e = .returned (.string (textS f len 200 s).1) ∧ Hid (KC w Y b len cap a f g x (textS f len 200 s).2) := (dtext_any X b len cap a f s h.rd 200 (by omega) (by omega)).mono fun e Y hh => ⟨hh.1, h.call hh.2.1 hh.2.2⟩
theorem KC.setP {w X : World} {b len cap g : Nat} {a : Option Addr} {f : Nat → Int} {x : Cn} {s : St} (h : KC w X b len cap a f g x s) (hs : s.st = false) (n : Nat) (hn : n ≤ len) : KC w (X.setCell ⟨b, 1, none⟩ (.int .i64 (n : Int))) b len cap a f g x ⟨n, false⟩ := by
  have hb := h.bl
  have hl := h.lt
  have t : Tq X (X.setCell ⟨b, 1, none⟩ (.int .i64 (n : Int))) (fun k => k = b) := Tq.set rfl
  exact ⟨h.rd.setP hs n hn, h.rs.tq t (by omega), h.bx.tq t (by omega), gb_set h.gb, hb, h.al, hl⟩
theorem sext_lo {x : Int} (h0 : 0 ≤ x) (h1 : x < 2147483648) : sext x 32 = x := by
  unfold sext sx
  rw [if_pos (by omega)]
  simp
  omega
theorem sext_hi {x : Int} (h0 : 2147483648 ≤ x) (h1 : x ≤ 4294967295) : sext x 32 = x - 4294967296 := by
  unfold sext sx
  rw [if_pos (by omega)]
  simp
  omega
set_option maxHeartbeats 16000000 in
set_option maxRecDepth 20000 in
theorem dcon_a (w : World) (b len cap : Nat) (a : Option Addr) (f : Nat → Int) (s : St) (h : RdD w b a len cap f s) (hs : (textS f len 20 s).2.st = true) : Calls Tryd.prog 44 #[.pointer (some ⟨b, 0, none⟩)] w (PostCn w b a len cap f (conS f len s)) := by
  have TX := hid_of (con_text h)
  have hC : (conS f len s).2 = ⟨(textS f len 20 s).2.p, true⟩ := conS_stuck (by rw [st_true hs, octP_st])
  simp only [zeroC, cEnc] at TX
  generalize textS f len 20 s = x1 at *
  obtain ⟨nm, s1⟩ := x1
  clear h
  go_enter Tryd.func44, Tryd.ntmps44
  go_wp2_with (go_at_call 42; refine TX.out.mono ?_; rintro e X1 ⟨Z1, rfl, z1, K1⟩)
  clear TX z1
  generalize X1.heap.size = g at K1 ⊢
  clear X1
  have c0 : Z1.cell? ⟨b, 0, none⟩ = some (.slice a len cap) := K1.out.rd.blk.cell 0
  have c1 : Z1.cell? ⟨b, 1, none⟩ = some (.int .i64 (s1.p : Int)) := K1.out.rd.blk.cell 1
  try simp only at hs hC
  have c2 : Z1.cell? ⟨b, 2, none⟩ = some (.int .i64 (s1.p : Int)) := by rw [K1.out.rd.blk.cell 2]; simp [rdD, hs]
  have d0 : decide ((s1.p : Int) < 0) = false := decide_eq_false (by omega)
  go_quiet (fail)
  generalize hX : Z1.drewN nq = X2
  have hb : Below Z1.heap.size Z1 X2 := by rw [← hX]; exact bdn (Below.refl _ _) _
  have K2 := hid_of (K1.out.below hb)
  clear hb hX K1 c0 c1 c2 d0
  have o1 := K2.out.one
  rw [st_true hs, octP_st] at o1
  have O1 := hid_of o1
  clear o1 K2
  go_wp2_with (go_at_call 45; refine O1.out.mono ?_; rintro e Y1 ⟨rfl, K3⟩; have y1 : Y1.cell? ⟨g, 1, none⟩ = some (.int .i64 0) := K3.out.bx.cell 1; have y2 := K3.out.bx.fz 1)
  clear O1
  have K4 := hid_of (K3.out.put 1 (.int .i64 0) ⟨nm, 0, 0, ⟨#[]⟩, true⟩ rfl)
  generalize Y1.setCell ⟨g, 1, none⟩ (.int .i64 0) = Z2 at K4 ⊢
  clear K3 y1 y2 Y1
  have c0 : Z2.cell? ⟨b, 0, none⟩ = some (.slice a len cap) := K4.out.rd.blk.cell 0
  have c1 : Z2.cell? ⟨b, 1, none⟩ = some (.int .i64 (s1.p : Int)) := K4.out.rd.blk.cell 1
  have GE : Hid (∀ k, Calls Tryd.prog 75 #[.slice a len cap, .int .i64 (s1.p : Int)] (Z2.drewN k) _) := fun k => rget_any a len cap f s1.p (Z2.drewN k) (K4.out.rd.src.below (bdn (Below.refl _ _) k)).rd (by have := K4.out.rd.le; have := K4.out.rd.small; simp only at *; omega)
  generalize gotW len f (s1.p : Int) = gv at GE
  generalize fits len (s1.p : Int) = okk at GE
  cases okk
  all_goals
    go_quiet ((go_at_call 75; exact Calls.quiet_of_same (GE.out _)))
    generalize hX : Z2.drewN nq = X3
    have hb : Below Z2.heap.size Z2 X3 := by rw [← hX]; exact bdn (Below.refl _ _) _
    have K5 := hid_of (K4.out.below hb)
    clear hb hX K4 c0 c1 GE
    have c2 : X3.cell? ⟨b, 2, none⟩ = some (.int .i64 (s1.p : Int)) := K5.out.rd.blk.cell 2
    have d2 : decide ((0 : Int) ≤ (s1.p : Int)) = true := decide_eq_true (by omega)
    have w5 := hid_of (K5.out.wrong)
    go_wp2_with (go_at_call 47; refine w5.out.mono ?_; rintro e Y3 ⟨rfl, K6⟩; obtain ⟨l6, Zf, s6, b6, r6, gb6⟩ := K6.out.fin; have B6 := hid_of b6; have R6 := hid_of r6; have G6 := hid_of gb6; clear b6 r6 gb6)
    exact ret_cell1 (p := 2) rfl rfl (ldT_run B6.out Tryd.underlying53 rfl (by kernel_rfl)) rfl ⟨_, rfl, (fun e => by rw [hC] at e; cases e), by rw [hC]; exact R6.out, G6.out⟩
set_option maxHeartbeats 16000000 in
set_option maxRecDepth 20000 in
theorem dcon_b (w : World) (b len cap : Nat) (a : Option Addr) (f : Nat → Int) (s : St) (h : RdD w b a len cap f s) (hs : (textS f len 20 s).2.st = false) (hp : len ≤ (textS f len 20 s).2.p) : Calls Tryd.prog 44 #[.pointer (some ⟨b, 0, none⟩)] w (PostCn w b a len cap f (conS f len s)) := by
  have TX := hid_of (con_text h)
  have hC : (conS f len s).2 = ⟨(textS f len 20 s).2.p, true⟩ := conS_stuck (octP_end _ hp)
  simp only [zeroC, cEnc] at TX
  generalize textS f len 20 s = x1 at *
  obtain ⟨nm, s1⟩ := x1
  clear h
  go_enter Tryd.func44, Tryd.ntmps44
  go_wp2_with (go_at_call 42; refine TX.out.mono ?_; rintro e X1 ⟨Z1, rfl, z1, K1⟩)
  clear TX z1
  generalize X1.heap.size = g at K1 ⊢
  clear X1
  have c0 : Z1.cell? ⟨b, 0, none⟩ = some (.slice a len cap) := K1.out.rd.blk.cell 0
  have c1 : Z1.cell? ⟨b, 1, none⟩ = some (.int .i64 (s1.p : Int)) := K1.out.rd.blk.cell 1
  try simp only at hs hC hp
  have c2 : Z1.cell? ⟨b, 2, none⟩ = some (.int .i64 (-1)) := by rw [K1.out.rd.blk.cell 2]; simp [rdD, hs]
  have d1 : decide ((s1.p : Int) < (len : Int)) = false := decide_eq_false (by omega)
  have d2 : decide (s1.p < len) = false := decide_eq_false (by omega)
  have n1 : ¬ s1.p < len := by omega
  go_quiet (fail)
  generalize hX : Z1.drewN nq = X2
  have hb : Below Z1.heap.size Z1 X2 := by rw [← hX]; exact bdn (Below.refl _ _) _
  have K2 := hid_of (K1.out.below hb)
  clear hb hX K1 c0 c1 c2 d1 d2 n1
  have o1 := K2.out.one
  rw [octP_end _ hp] at o1
  have O1 := hid_of o1
  clear o1 K2
  go_wp2_with (go_at_call 45; refine O1.out.mono ?_; rintro e Y1 ⟨rfl, K3⟩; have y1 : Y1.cell? ⟨g, 1, none⟩ = some (.int .i64 0) := K3.out.bx.cell 1; have y2 := K3.out.bx.fz 1)
  clear O1
  have K4 := hid_of (K3.out.put 1 (.int .i64 0) ⟨nm, 0, 0, ⟨#[]⟩, true⟩ rfl)
  generalize Y1.setCell ⟨g, 1, none⟩ (.int .i64 0) = Z2 at K4 ⊢
  clear K3 y1 y2 Y1
  have c0 : Z2.cell? ⟨b, 0, none⟩ = some (.slice a len cap) := K4.out.rd.blk.cell 0
  have c1 : Z2.cell? ⟨b, 1, none⟩ = some (.int .i64 (s1.p : Int)) := K4.out.rd.blk.cell 1
  have GE : Hid (∀ k, Calls Tryd.prog 75 #[.slice a len cap, .int .i64 (s1.p : Int)] (Z2.drewN k) _) := fun k => rget_any a len cap f s1.p (Z2.drewN k) (K4.out.rd.src.below (bdn (Below.refl _ _) k)).rd (by have := K4.out.rd.le; have := K4.out.rd.small; simp only at *; omega)
  generalize gotW len f (s1.p : Int) = gv at GE
  generalize fits len (s1.p : Int) = okk at GE
  cases okk
  all_goals
    go_quiet ((go_at_call 75; exact Calls.quiet_of_same (GE.out _)))
    generalize hX : Z2.drewN nq = X3
    have hb : Below Z2.heap.size Z2 X3 := by rw [← hX]; exact bdn (Below.refl _ _) _
    have K5 := hid_of (K4.out.below hb)
    clear hb hX K4 c0 c1 GE
    have c2 : X3.cell? ⟨b, 2, none⟩ = some (.int .i64 (s1.p : Int)) := K5.out.rd.blk.cell 2
    have d2 : decide ((0 : Int) ≤ (s1.p : Int)) = true := decide_eq_true (by omega)
    have w5 := hid_of (K5.out.wrong)
    go_wp2_with (go_at_call 47; refine w5.out.mono ?_; rintro e Y3 ⟨rfl, K6⟩; obtain ⟨l6, Zf, s6, b6, r6, gb6⟩ := K6.out.fin; have B6 := hid_of b6; have R6 := hid_of r6; have G6 := hid_of gb6; clear b6 r6 gb6)
    exact ret_cell1 (p := 2) rfl rfl (ldT_run B6.out Tryd.underlying53 rfl (by kernel_rfl)) rfl ⟨_, rfl, (fun e => by rw [hC] at e; cases e), by rw [hC]; exact R6.out, G6.out⟩
set_option maxHeartbeats 16000000 in
set_option maxRecDepth 20000 in
theorem dcon_c4 (w : World) (b len cap : Nat) (a : Option Addr) (f : Nat → Int) (s : St) (h : RdD w b a len cap f s) (hs : (textS f len 20 s).2.st = false) (hp : (textS f len 20 s).2.p < len) (hv : f (textS f len 20 s).2.p = 4) : Calls Tryd.prog 44 #[.pointer (some ⟨b, 0, none⟩)] w (PostCn w b a len cap f (conS f len s)) := by
  have TX := hid_of (con_text h)
  have hC : (conS f len s).2 = ⟨(textS f len 20 s).2.p, true⟩ := conS_stuck (octP_no (by rw [hv]; rfl))
  simp only [zeroC, cEnc] at TX
  generalize textS f len 20 s = x1 at *
  obtain ⟨nm, s1⟩ := x1
  clear h
  go_enter Tryd.func44, Tryd.ntmps44
  go_wp2_with (go_at_call 42; refine TX.out.mono ?_; rintro e X1 ⟨Z1, rfl, z1, K1⟩)
  clear TX z1
  generalize X1.heap.size = g at K1 ⊢
  clear X1
  have c0 : Z1.cell? ⟨b, 0, none⟩ = some (.slice a len cap) := K1.out.rd.blk.cell 0
  have c1 : Z1.cell? ⟨b, 1, none⟩ = some (.int .i64 (s1.p : Int)) := K1.out.rd.blk.cell 1
  try simp only at hs hC hp hv
  have c2 : Z1.cell? ⟨b, 2, none⟩ = some (.int .i64 (-1)) := by rw [K1.out.rd.blk.cell 2]; simp [rdD, hs]
  have d1 : decide ((s1.p : Int) < (len : Int)) = true := decide_eq_true (by omega)
  have d2 : decide (s1.p < len) = true := decide_eq_true (by omega)
  have i0 : (0 : Int) ≤ (s1.p : Int) := by omega
  have i1 : (s1.p : Int) < (len : Int) := by omega
  rcases K1.out.rd.src.rd.2 with e0 | ⟨q, off, rfl, hc⟩
  · omega
  obtain ⟨cq, f0, f1⟩ := hc s1.p hp
  clear hc
  rw [hv] at cq
  go_quiet (fail)
  generalize hX : Z1.drewN nq = X2
  have hb : Below Z1.heap.size Z1 X2 := by rw [← hX]; exact bdn (Below.refl _ _) _
  have K2 := hid_of (K1.out.below hb)
  clear hb hX K1 c0 c1 c2 d1 d2 i0 i1 cq
  have W2 := hid_of K2.out.wrong
  clear K2
  go_wp2_with (first
    | (go_at_call 47; refine W2.out.mono ?_; rintro e V ⟨rfl, KV⟩; have o1 := KV.out.one; rw [octP_st] at o1; have O1 := hid_of o1; clear o1)
    | (go_at_call 45; refine O1.out.mono ?_; rintro e Y1 ⟨rfl, K3⟩; have y1 : Y1.cell? ⟨g, 1, none⟩ = some (.int .i64 0) := K3.out.bx.cell 1; have y2 := K3.out.bx.fz 1))
  clear O1 W2
  have K4 := hid_of (K3.out.put 1 (.int .i64 0) ⟨nm, 0, 0, ⟨#[]⟩, true⟩ rfl)
  generalize Y1.setCell ⟨g, 1, none⟩ (.int .i64 0) = Z2 at K4 ⊢
  clear K3 y1 y2 Y1
  have c0 : Z2.cell? ⟨b, 0, none⟩ = some (.slice (some ⟨q, off, none⟩) len cap) := K4.out.rd.blk.cell 0
  have c1 : Z2.cell? ⟨b, 1, none⟩ = some (.int .i64 (s1.p : Int)) := K4.out.rd.blk.cell 1
  have GE : Hid (∀ k, Calls Tryd.prog 75 #[.slice (some ⟨q, off, none⟩) len cap, .int .i64 (s1.p : Int)] (Z2.drewN k) _) := fun k => rget_any _ len cap f s1.p (Z2.drewN k) (K4.out.rd.src.below (bdn (Below.refl _ _) k)).rd (by have := K4.out.rd.le; have := K4.out.rd.small; simp only at *; omega)
  generalize gotW len f (s1.p : Int) = gv at GE
  generalize fits len (s1.p : Int) = okk at GE
  cases okk
  all_goals
    go_quiet ((go_at_call 75; exact Calls.quiet_of_same (GE.out _)))
    generalize hX : Z2.drewN nq = X3
    have hb : Below Z2.heap.size Z2 X3 := by rw [← hX]; exact bdn (Below.refl _ _) _
    have K5 := hid_of (K4.out.below hb)
    clear hb hX K4 c0 c1 GE
    have c2 : X3.cell? ⟨b, 2, none⟩ = some (.int .i64 (s1.p : Int)) := K5.out.rd.blk.cell 2
    have d2 : decide ((0 : Int) ≤ (s1.p : Int)) = true := decide_eq_true (by omega)
    have w5 := hid_of (K5.out.wrong)
    go_wp2_with (go_at_call 47; refine w5.out.mono ?_; rintro e Y3 ⟨rfl, K6⟩; obtain ⟨l6, Zf, s6, b6, r6, gb6⟩ := K6.out.fin; have B6 := hid_of b6; have R6 := hid_of r6; have G6 := hid_of gb6; clear b6 r6 gb6)
    exact ret_cell1 (p := 2) rfl rfl (ldT_run B6.out Tryd.underlying53 rfl (by kernel_rfl)) rfl ⟨_, rfl, (fun e => by rw [hC] at e; cases e), by rw [hC]; exact R6.out, G6.out⟩
set_option maxHeartbeats 16000000 in
set_option maxRecDepth 20000 in
theorem dcon_c6 (w : World) (b len cap : Nat) (a : Option Addr) (f : Nat → Int) (s : St) (h : RdD w b a len cap f s) (hs : (textS f len 20 s).2.st = false) (hp : (textS f len 20 s).2.p < len) (hv : f (textS f len 20 s).2.p = 6) : Calls Tryd.prog 44 #[.pointer (some ⟨b, 0, none⟩)] w (PostCn w b a len cap f (conS f len s)) := by
  have TX := hid_of (con_text h)
  have hC : (conS f len s).2 = ⟨(textS f len 20 s).2.p, true⟩ := conS_stuck (octP_no (by rw [hv]; rfl))
  simp only [zeroC, cEnc] at TX
  generalize textS f len 20 s = x1 at *
  obtain ⟨nm, s1⟩ := x1
  clear h
  go_enter Tryd.func44, Tryd.ntmps44
  go_wp2_with (go_at_call 42; refine TX.out.mono ?_; rintro e X1 ⟨Z1, rfl, z1, K1⟩)
  clear TX z1
  generalize X1.heap.size = g at K1 ⊢
  clear X1
  have c0 : Z1.cell? ⟨b, 0, none⟩ = some (.slice a len cap) := K1.out.rd.blk.cell 0
  have c1 : Z1.cell? ⟨b, 1, none⟩ = some (.int .i64 (s1.p : Int)) := K1.out.rd.blk.cell 1
  try simp only at hs hC hp hv
  have c2 : Z1.cell? ⟨b, 2, none⟩ = some (.int .i64 (-1)) := by rw [K1.out.rd.blk.cell 2]; simp [rdD, hs]
  have d1 : decide ((s1.p : Int) < (len : Int)) = true := decide_eq_true (by omega)
  have d2 : decide (s1.p < len) = true := decide_eq_true (by omega)
  have i0 : (0 : Int) ≤ (s1.p : Int) := by omega
  have i1 : (s1.p : Int) < (len : Int) := by omega
  rcases K1.out.rd.src.rd.2 with e0 | ⟨q, off, rfl, hc⟩
  · omega
  obtain ⟨cq, f0, f1⟩ := hc s1.p hp
  clear hc
  rw [hv] at cq
  go_quiet (fail)
  generalize hX : Z1.drewN nq = X2
  have hb : Below Z1.heap.size Z1 X2 := by rw [← hX]; exact bdn (Below.refl _ _) _
  have K2 := hid_of (K1.out.below hb)
  clear hb hX K1 c0 c1 c2 d1 d2 i0 i1 cq
  have W2 := hid_of K2.out.wrong
  clear K2
  go_wp2_with (first
    | (go_at_call 47; refine W2.out.mono ?_; rintro e V ⟨rfl, KV⟩; have o1 := KV.out.one; rw [octP_st] at o1; have O1 := hid_of o1; clear o1)
    | (go_at_call 45; refine O1.out.mono ?_; rintro e Y1 ⟨rfl, K3⟩; have y1 : Y1.cell? ⟨g, 1, none⟩ = some (.int .i64 0) := K3.out.bx.cell 1; have y2 := K3.out.bx.fz 1))
  clear O1 W2
  have K4 := hid_of (K3.out.put 1 (.int .i64 0) ⟨nm, 0, 0, ⟨#[]⟩, true⟩ rfl)
  generalize Y1.setCell ⟨g, 1, none⟩ (.int .i64 0) = Z2 at K4 ⊢
  clear K3 y1 y2 Y1
  have c0 : Z2.cell? ⟨b, 0, none⟩ = some (.slice (some ⟨q, off, none⟩) len cap) := K4.out.rd.blk.cell 0
  have c1 : Z2.cell? ⟨b, 1, none⟩ = some (.int .i64 (s1.p : Int)) := K4.out.rd.blk.cell 1
  have GE : Hid (∀ k, Calls Tryd.prog 75 #[.slice (some ⟨q, off, none⟩) len cap, .int .i64 (s1.p : Int)] (Z2.drewN k) _) := fun k => rget_any _ len cap f s1.p (Z2.drewN k) (K4.out.rd.src.below (bdn (Below.refl _ _) k)).rd (by have := K4.out.rd.le; have := K4.out.rd.small; simp only at *; omega)
  generalize gotW len f (s1.p : Int) = gv at GE
  generalize fits len (s1.p : Int) = okk at GE
  cases okk
  all_goals
    go_quiet ((go_at_call 75; exact Calls.quiet_of_same (GE.out _)))
    generalize hX : Z2.drewN nq = X3
    have hb : Below Z2.heap.size Z2 X3 := by rw [← hX]; exact bdn (Below.refl _ _) _
    have K5 := hid_of (K4.out.below hb)
    clear hb hX K4 c0 c1 GE
    have c2 : X3.cell? ⟨b, 2, none⟩ = some (.int .i64 (s1.p : Int)) := K5.out.rd.blk.cell 2
    have d2 : decide ((0 : Int) ≤ (s1.p : Int)) = true := decide_eq_true (by omega)
    have w5 := hid_of (K5.out.wrong)
    go_wp2_with (go_at_call 47; refine w5.out.mono ?_; rintro e Y3 ⟨rfl, K6⟩; obtain ⟨l6, Zf, s6, b6, r6, gb6⟩ := K6.out.fin; have B6 := hid_of b6; have R6 := hid_of r6; have G6 := hid_of gb6; clear b6 r6 gb6)
    exact ret_cell1 (p := 2) rfl rfl (ldT_run B6.out Tryd.underlying53 rfl (by kernel_rfl)) rfl ⟨_, rfl, (fun e => by rw [hC] at e; cases e), by rw [hC]; exact R6.out, G6.out⟩
set_option maxHeartbeats 16000000 in
set_option maxRecDepth 20000 in
theorem dcon_d (w : World) (b len cap : Nat) (a : Option Addr) (f : Nat → Int) (s : St) (h : RdD w b a len cap f s) (hs : (textS f len 20 s).2.st = false) (hp : (textS f len 20 s).2.p < len) (h4 : f (textS f len 20 s).2.p ≠ 4) (h6 : f (textS f len 20 s).2.p ≠ 6) (hr : rgB 1 7 (f (textS f len 20 s).2.p) = false) : Calls Tryd.prog 44 #[.pointer (some ⟨b, 0, none⟩)] w (PostCn w b a len cap f (conS f len s)) := by
  have TX := hid_of (con_text h)
  have hC : (conS f len s).2 = ⟨(textS f len 20 s).2.p, true⟩ := conS_stuck (octP_no (by rw [con_rg h4 h6]; exact hr))
  simp only [zeroC, cEnc] at TX
  generalize textS f len 20 s = x1 at *
  obtain ⟨nm, s1⟩ := x1
  clear h
  go_enter Tryd.func44, Tryd.ntmps44
  go_wp2_with (go_at_call 42; refine TX.out.mono ?_; rintro e X1 ⟨Z1, rfl, z1, K1⟩)
  clear TX z1
  generalize X1.heap.size = g at K1 ⊢
  clear X1
  have c0 : Z1.cell? ⟨b, 0, none⟩ = some (.slice a len cap) := K1.out.rd.blk.cell 0
  have c1 : Z1.cell? ⟨b, 1, none⟩ = some (.int .i64 (s1.p : Int)) := K1.out.rd.blk.cell 1
  try simp only at hs hC hp h4 h6 hr
  have c2 : Z1.cell? ⟨b, 2, none⟩ = some (.int .i64 (-1)) := by rw [K1.out.rd.blk.cell 2]; simp [rdD, hs]
  have d1 : decide ((s1.p : Int) < (len : Int)) = true := decide_eq_true (by omega)
  have d2 : decide (s1.p < len) = true := decide_eq_true (by omega)
  have i0 : (0 : Int) ≤ (s1.p : Int) := by omega
  have i1 : (s1.p : Int) < (len : Int) := by omega
  rcases K1.out.rd.src.rd.2 with e0 | ⟨q, off, rfl, hc⟩
  · omega
  obtain ⟨cq, f0, f1⟩ := hc s1.p hp
  clear hc
  have v4 : ¬ f s1.p = 4 := h4
  have v6 : ¬ f s1.p = 6 := h6
  have w4 : decide (f s1.p = 4) = false := decide_eq_false h4
  have w6 : decide (f s1.p = 6) = false := decide_eq_false h6
  have u4 : (f s1.p == 4) = false := by simpa using h4
  have u6 : (f s1.p == 6) = false := by simpa using h6
  go_quiet (fail)
  generalize hX : Z1.drewN nq = X2
  have hb : Below Z1.heap.size Z1 X2 := by rw [← hX]; exact bdn (Below.refl _ _) _
  have K2 := hid_of (K1.out.below hb)
  clear hb hX K1 c0 c1 c2 d1 d2 i0 i1 cq v4 v6 w4 w6 u4 u6
  have o1 := K2.out.one
  rw [octP_no hr] at o1
  have O1 := hid_of o1
  clear o1 K2
  go_wp2_with (go_at_call 45; refine O1.out.mono ?_; rintro e Y1 ⟨rfl, K3⟩; have y1 : Y1.cell? ⟨g, 1, none⟩ = some (.int .i64 0) := K3.out.bx.cell 1; have y2 := K3.out.bx.fz 1)
  clear O1
  have K4 := hid_of (K3.out.put 1 (.int .i64 0) ⟨nm, 0, 0, ⟨#[]⟩, true⟩ rfl)
  generalize Y1.setCell ⟨g, 1, none⟩ (.int .i64 0) = Z2 at K4 ⊢
  clear K3 y1 y2 Y1
  have c0 : Z2.cell? ⟨b, 0, none⟩ = some (.slice (some ⟨q, off, none⟩) len cap) := K4.out.rd.blk.cell 0
  have c1 : Z2.cell? ⟨b, 1, none⟩ = some (.int .i64 (s1.p : Int)) := K4.out.rd.blk.cell 1
  have GE : Hid (∀ k, Calls Tryd.prog 75 #[.slice (some ⟨q, off, none⟩) len cap, .int .i64 (s1.p : Int)] (Z2.drewN k) _) := fun k => rget_any _ len cap f s1.p (Z2.drewN k) (K4.out.rd.src.below (bdn (Below.refl _ _) k)).rd (by have := K4.out.rd.le; have := K4.out.rd.small; simp only at *; omega)
  generalize gotW len f (s1.p : Int) = gv at GE
  generalize fits len (s1.p : Int) = okk at GE
  cases okk
  all_goals
    go_quiet ((go_at_call 75; exact Calls.quiet_of_same (GE.out _)))
    generalize hX : Z2.drewN nq = X3
    have hb : Below Z2.heap.size Z2 X3 := by rw [← hX]; exact bdn (Below.refl _ _) _
    have K5 := hid_of (K4.out.below hb)
    clear hb hX K4 c0 c1 GE
    have c2 : X3.cell? ⟨b, 2, none⟩ = some (.int .i64 (s1.p : Int)) := K5.out.rd.blk.cell 2
    have d2 : decide ((0 : Int) ≤ (s1.p : Int)) = true := decide_eq_true (by omega)
    have w5 := hid_of (K5.out.wrong)
    go_wp2_with (go_at_call 47; refine w5.out.mono ?_; rintro e Y3 ⟨rfl, K6⟩; obtain ⟨l6, Zf, s6, b6, r6, gb6⟩ := K6.out.fin; have B6 := hid_of b6; have R6 := hid_of r6; have G6 := hid_of gb6; clear b6 r6 gb6)
    exact ret_cell1 (p := 2) rfl rfl (ldT_run B6.out Tryd.underlying53 rfl (by kernel_rfl)) rfl ⟨_, rfl, (fun e => by rw [hC] at e; cases e), by rw [hC]; exact R6.out, G6.out⟩
set_option maxHeartbeats 16000000 in
set_option maxRecDepth 20000 in
theorem dcon_s (w : World) (b len cap : Nat) (a : Option Addr) (f : Nat → Int) (s : St) (h : RdD w b a len cap f s) (hs : (textS f len 20 s).2.st = false) (hp : (textS f len 20 s).2.p < len) (hv : f (textS f len 20 s).2.p = 7) : Calls Tryd.prog 44 #[.pointer (some ⟨b, 0, none⟩)] w (PostCn w b a len cap f (conS f len s)) := by
  have TX := hid_of (con_text h)
  have hC := conS_of (octP_yes (P := conB) hs hp (by rw [hv]; rfl))
  rw [hv, if_pos rfl] at hC
  obtain ⟨x3, hx3⟩ : ∃ x, x = textS f len 200 ⟨(textS f len 20 s).2.p + 1, false⟩ := ⟨_, rfl⟩
  rw [← hx3] at hC
  simp only [zeroC, cEnc] at TX
  generalize textS f len 20 s = x1 at *
  obtain ⟨nm, s1⟩ := x1
  clear h
  go_enter Tryd.func44, Tryd.ntmps44
  go_wp2_with (go_at_call 42; refine TX.out.mono ?_; rintro e X1 ⟨Z1, rfl, z1, K1⟩)
  clear TX z1
  generalize X1.heap.size = g at K1 ⊢
  clear X1
  have c0 : Z1.cell? ⟨b, 0, none⟩ = some (.slice a len cap) := K1.out.rd.blk.cell 0
  have c1 : Z1.cell? ⟨b, 1, none⟩ = some (.int .i64 (s1.p : Int)) := K1.out.rd.blk.cell 1
  try simp only at hs hC hp hv hx3
  have c2 : Z1.cell? ⟨b, 2, none⟩ = some (.int .i64 (-1)) := by rw [K1.out.rd.blk.cell 2]; simp [rdD, hs]
  have d1 : decide ((s1.p : Int) < (len : Int)) = true := decide_eq_true (by omega)
  have d2 : decide (s1.p < len) = true := decide_eq_true (by omega)
  have i0 : (0 : Int) ≤ (s1.p : Int) := by omega
  have i1 : (s1.p : Int) < (len : Int) := by omega
  rcases K1.out.rd.src.rd.2 with e0 | ⟨q, off, rfl, hc⟩
  · omega
  obtain ⟨cq, f0, f1⟩ := hc s1.p hp
  clear hc
  rw [hv] at cq
  go_quiet (fail)
  generalize hX : Z1.drewN nq = X2
  have hb : Below Z1.heap.size Z1 X2 := by rw [← hX]; exact bdn (Below.refl _ _) _
  have K2 := hid_of (K1.out.below hb)
  clear hb hX K1 c0 c1 c2 d1 d2 i0 i1 cq
  have o1 := K2.out.one
  rw [octP_yes hs hp (by rw [hv]; rfl), hv] at o1
  have O1 := hid_of o1
  clear o1 K2
  have HX := hid_of hx3
  clear hx3
  go_wp2_with (first
    | (go_at_call 45; refine O1.out.mono ?_; rintro e Y1 ⟨rfl, K3⟩; have y1 : Y1.cell? ⟨g, 1, none⟩ = some (.int .i64 0) := K3.out.bx.cell 1; have y2 := K3.out.bx.fz 1; have t2 := (K3.out.put 1 (.int .i64 7) ⟨nm, 7, 0, ⟨#[]⟩, true⟩ rfl).text; rw [← HX.out] at t2; have T2 := hid_of t2; clear t2 K3)
    | (go_at_call 42; refine T2.out.mono ?_; rintro e Y2 ⟨rfl, K5⟩; have y3 : Y2.cell? ⟨g, 3, none⟩ = some (.string ⟨#[]⟩) := K5.out.bx.cell 3; have y4 := K5.out.bx.fz 3; obtain ⟨l6, Zf, s6, b6, r6, gb6⟩ := (K5.out.put 3 (.string x3.1) ⟨nm, 7, 0, x3.1, true⟩ rfl).fin; have B6 := hid_of b6; have R6 := hid_of r6; have G6 := hid_of gb6; clear b6 r6 gb6 K5))
  exact ret_cell1 (p := 2) rfl rfl (ldT_run B6.out Tryd.underlying53 rfl (by kernel_rfl)) rfl ⟨_, rfl, (fun _ => by rw [hC]), by rw [hC]; exact R6.out, G6.out⟩
set_option maxHeartbeats 16000000 in
set_option maxRecDepth 20000 in
theorem dcon_n (w : World) (b len cap : Nat) (a : Option Addr) (f : Nat → Int) (s : St) (h : RdD w b a len cap f s) (hs : (textS f len 20 s).2.st = false) (hp : (textS f len 20 s).2.p < len) (h4 : f (textS f len 20 s).2.p ≠ 4) (h6 : f (textS f len 20 s).2.p ≠ 6) (h7 : f (textS f len 20 s).2.p ≠ 7) (hr : rgB 1 7 (f (textS f len 20 s).2.p) = true) (hF : fits len (((textS f len 20 s).2.p + 1 : Nat) : Int) = false) : Calls Tryd.prog 44 #[.pointer (some ⟨b, 0, none⟩)] w (PostCn w b a len cap f (conS f len s)) := by
  have TX := hid_of (con_text h)
  have hC : (conS f len s).2 = ⟨(textS f len 20 s).2.p + 1, true⟩ := by
    rw [conS_of (octP_yes (P := conB) hs hp (by rw [con_rg h4 h6]; exact hr)), if_neg h7]
    have e : wordS f len ⟨(textS f len 20 s).2.p + 1, false⟩ = (0, ⟨(textS f len 20 s).2.p + 1, true⟩) := by unfold wordS; rw [hF]; rfl
    rw [e]
    split <;> rfl
  simp only [zeroC, cEnc] at TX
  generalize textS f len 20 s = x1 at *
  obtain ⟨nm, s1⟩ := x1
  clear h
  go_enter Tryd.func44, Tryd.ntmps44
  go_wp2_with (go_at_call 42; refine TX.out.mono ?_; rintro e X1 ⟨Z1, rfl, z1, K1⟩)
  clear TX z1
  generalize X1.heap.size = g at K1 ⊢
  clear X1
  have c0 : Z1.cell? ⟨b, 0, none⟩ = some (.slice a len cap) := K1.out.rd.blk.cell 0
  have c1 : Z1.cell? ⟨b, 1, none⟩ = some (.int .i64 (s1.p : Int)) := K1.out.rd.blk.cell 1
  try simp only at hs hC hp h4 h6 h7 hr hF
  have c2 : Z1.cell? ⟨b, 2, none⟩ = some (.int .i64 (-1)) := by rw [K1.out.rd.blk.cell 2]; simp [rdD, hs]
  have d1 : decide ((s1.p : Int) < (len : Int)) = true := decide_eq_true (by omega)
  have d2 : decide (s1.p < len) = true := decide_eq_true (by omega)
  have i0 : (0 : Int) ≤ (s1.p : Int) := by omega
  have i1 : (s1.p : Int) < (len : Int) := by omega
  rcases K1.out.rd.src.rd.2 with e0 | ⟨q, off, rfl, hc⟩
  · omega
  obtain ⟨cq, f0, f1⟩ := hc s1.p hp
  clear hc
  have v4 : ¬ f s1.p = 4 := h4
  have v6 : ¬ f s1.p = 6 := h6
  have w4 : decide (f s1.p = 4) = false := decide_eq_false h4
  have w6 : decide (f s1.p = 6) = false := decide_eq_false h6
  have u4 : (f s1.p == 4) = false := by simpa using h4
  have u6 : (f s1.p == 6) = false := by simpa using h6
  have v7 : ¬ f s1.p = 7 := h7
  have w7 : decide (f s1.p = 7) = false := decide_eq_false h7
  have u7 : (f s1.p == 7) = false := by simpa using h7
  go_quiet (fail)
  generalize hX : Z1.drewN nq = X2
  have hb : Below Z1.heap.size Z1 X2 := by rw [← hX]; exact bdn (Below.refl _ _) _
  have K2 := hid_of (K1.out.below hb)
  clear hb hX K1 c0 c1 c2 d1 d2 i0 i1 cq v4 v6 w4 w6 u4 u6
  have o1 := K2.out.one
  rw [octP_yes hs hp hr] at o1
  obtain ⟨p2, hp2⟩ : ∃ p2, p2 = s1.p + 1 := ⟨_, rfl⟩
  rw [← hp2] at o1 hC hF
  have O1 := hid_of o1
  clear o1 K2 hp2
  generalize f s1.p = v at *
  clear f0 f1
  go_wp2_with (go_at_call 45; refine O1.out.mono ?_; rintro e Y1 ⟨rfl, K3⟩; have y1 : Y1.cell? ⟨g, 1, none⟩ = some (.int .i64 0) := K3.out.bx.cell 1; have y2 := K3.out.bx.fz 1)
  clear O1
  have K4 := hid_of (K3.out.put 1 (.int .i64 v) ⟨nm, v, 0, ⟨#[]⟩, true⟩ rfl)
  generalize Y1.setCell ⟨g, 1, none⟩ (.int .i64 v) = Z2 at K4 ⊢
  clear K3 y1 y2 Y1
  have c0 : Z2.cell? ⟨b, 0, none⟩ = some (.slice (some ⟨q, off, none⟩) len cap) := K4.out.rd.blk.cell 0
  have c1 : Z2.cell? ⟨b, 1, none⟩ = some (.int .i64 (p2 : Int)) := K4.out.rd.blk.cell 1
  have GE : Hid (∀ k, Calls Tryd.prog 75 #[.slice (some ⟨q, off, none⟩) len cap, .int .i64 (p2 : Int)] (Z2.drewN k) _) := fun k => rget_any _ len cap f p2 (Z2.drewN k) (K4.out.rd.src.below (bdn (Below.refl _ _) k)).rd (by have := K4.out.rd.le; have := K4.out.rd.small; simp only at *; omega)
  rw [hF] at GE
  obtain ⟨gv, hgv⟩ : ∃ gv, gv = gotW len f (p2 : Int) := ⟨_, rfl⟩
  rw [← hgv] at GE
  clear hgv
  go_quiet ((go_at_call 75; exact Calls.quiet_of_same (GE.out _)))
  generalize hX : Z2.drewN nq = X3
  have hb : Below Z2.heap.size Z2 X3 := by rw [← hX]; exact bdn (Below.refl _ _) _
  have K5 := hid_of (K4.out.below hb)
  clear hb hX K4 c0 c1 GE
  have w5 := hid_of (K5.out.wrong)
  go_wp2_with (go_at_call 47; refine w5.out.mono ?_; rintro e Y3 ⟨rfl, K6⟩; obtain ⟨l6, Zf, s6, b6, r6, gb6⟩ := K6.out.fin; have B6 := hid_of b6; have R6 := hid_of r6; have G6 := hid_of gb6; clear b6 r6 gb6)
  exact ret_cell1 (p := 2) rfl rfl (ldT_run B6.out Tryd.underlying53 rfl (by kernel_rfl)) rfl ⟨_, rfl, (fun e => by rw [hC] at e; cases e), by rw [hC]; exact R6.out, G6.out⟩
set_option maxHeartbeats 16000000 in
set_option maxRecDepth 20000 in
theorem dcon_w (w : World) (b len cap : Nat) (a : Option Addr) (f : Nat → Int) (s : St) (h : RdD w b a len cap f s) (hs : (textS f len 20 s).2.st = false) (hp : (textS f len 20 s).2.p < len) (h4 : f (textS f len 20 s).2.p ≠ 4) (h6 : f (textS f len 20 s).2.p ≠ 6) (h7 : f (textS f len 20 s).2.p ≠ 7) (hr : rgB 1 7 (f (textS f len 20 s).2.p) = true) (h1 : f (textS f len 20 s).2.p ≠ 1) (hF : fits len (((textS f len 20 s).2.p + 1 : Nat) : Int) = true) (hG : 0 ≤ gotW len f (((textS f len 20 s).2.p + 1 : Nat) : Int) ∧ gotW len f (((textS f len 20 s).2.p + 1 : Nat) : Int) ≤ 4294967295) : Calls Tryd.prog 44 #[.pointer (some ⟨b, 0, none⟩)] w (PostCn w b a len cap f (conS f len s)) := by
  have TX := hid_of (con_text h)
  have hC : conS f len s = (⟨(textS f len 20 s).1, f (textS f len 20 s).2.p, gotW len f (((textS f len 20 s).2.p + 1 : Nat) : Int), ⟨#[]⟩, true⟩, ⟨(textS f len 20 s).2.p + 1 + 4, false⟩) := by
    rw [conS_of (octP_yes (P := conB) hs hp (by rw [con_rg h4 h6]; exact hr)), if_neg h7, if_neg h1]
    have e : wordS f len ⟨(textS f len 20 s).2.p + 1, false⟩ = (gotW len f (((textS f len 20 s).2.p + 1 : Nat) : Int), ⟨(textS f len 20 s).2.p + 1 + 4, false⟩) := by unfold wordS; rw [hF]; rfl
    rw [e]
    try simp only
  have hL : (textS f len 20 s).2.p + 1 + 4 ≤ len := by unfold fits at hF; have := of_decide_eq_true hF; omega
  simp only [zeroC, cEnc] at TX
  generalize textS f len 20 s = x1 at *
  obtain ⟨nm, s1⟩ := x1
  clear h
  go_enter Tryd.func44, Tryd.ntmps44
  go_wp2_with (go_at_call 42; refine TX.out.mono ?_; rintro e X1 ⟨Z1, rfl, z1, K1⟩)
  clear TX z1
  generalize X1.heap.size = g at K1 ⊢
  clear X1
  have c0 : Z1.cell? ⟨b, 0, none⟩ = some (.slice a len cap) := K1.out.rd.blk.cell 0
  have c1 : Z1.cell? ⟨b, 1, none⟩ = some (.int .i64 (s1.p : Int)) := K1.out.rd.blk.cell 1
  try simp only at hs hC hp h4 h6 h7 hr hF hG hL h1
  have c2 : Z1.cell? ⟨b, 2, none⟩ = some (.int .i64 (-1)) := by rw [K1.out.rd.blk.cell 2]; simp [rdD, hs]
  have d1 : decide ((s1.p : Int) < (len : Int)) = true := decide_eq_true (by omega)
  have d2 : decide (s1.p < len) = true := decide_eq_true (by omega)
  have i0 : (0 : Int) ≤ (s1.p : Int) := by omega
  have i1 : (s1.p : Int) < (len : Int) := by omega
  rcases K1.out.rd.src.rd.2 with e0 | ⟨q, off, rfl, hc⟩
  · omega
  obtain ⟨cq, f0, f1⟩ := hc s1.p hp
  clear hc
  have v4 : ¬ f s1.p = 4 := h4
  have v6 : ¬ f s1.p = 6 := h6
  have w4 : decide (f s1.p = 4) = false := decide_eq_false h4
  have w6 : decide (f s1.p = 6) = false := decide_eq_false h6
  have u4 : (f s1.p == 4) = false := by simpa using h4
  have u6 : (f s1.p == 6) = false := by simpa using h6
  have v7 : ¬ f s1.p = 7 := h7
  have w7 : decide (f s1.p = 7) = false := decide_eq_false h7
  have u7 : (f s1.p == 7) = false := by simpa using h7
  have v1 : ¬ f s1.p = 1 := h1
  have w1 : decide (f s1.p = 1) = false := decide_eq_false h1
  have u1 : (f s1.p == 1) = false := by simpa using h1
  go_quiet (fail)
  generalize hX : Z1.drewN nq = X2
  have hb : Below Z1.heap.size Z1 X2 := by rw [← hX]; exact bdn (Below.refl _ _) _
  have K2 := hid_of (K1.out.below hb)
  clear hb hX K1 c0 c1 c2 d1 d2 i0 i1 cq v4 v6 w4 w6 u4 u6
  have o1 := K2.out.one
  rw [octP_yes hs hp hr] at o1
  obtain ⟨p2, hp2⟩ : ∃ p2, p2 = s1.p + 1 := ⟨_, rfl⟩
  rw [← hp2] at o1 hC hF hG hL
  have O1 := hid_of o1
  clear o1 K2 hp2
  generalize f s1.p = v at *
  clear f0 f1
  go_wp2_with (go_at_call 45; refine O1.out.mono ?_; rintro e Y1 ⟨rfl, K3⟩; have y1 : Y1.cell? ⟨g, 1, none⟩ = some (.int .i64 0) := K3.out.bx.cell 1; have y2 := K3.out.bx.fz 1)
  clear O1
  have K4 := hid_of (K3.out.put 1 (.int .i64 v) ⟨nm, v, 0, ⟨#[]⟩, true⟩ rfl)
  generalize Y1.setCell ⟨g, 1, none⟩ (.int .i64 v) = Z2 at K4 ⊢
  clear K3 y1 y2 Y1
  have c0 : Z2.cell? ⟨b, 0, none⟩ = some (.slice (some ⟨q, off, none⟩) len cap) := K4.out.rd.blk.cell 0
  have c1 : Z2.cell? ⟨b, 1, none⟩ = some (.int .i64 (p2 : Int)) := K4.out.rd.blk.cell 1
  have GE : Hid (∀ k, Calls Tryd.prog 75 #[.slice (some ⟨q, off, none⟩) len cap, .int .i64 (p2 : Int)] (Z2.drewN k) _) := fun k => rget_any _ len cap f p2 (Z2.drewN k) (K4.out.rd.src.below (bdn (Below.refl _ _) k)).rd (by have := K4.out.rd.le; have := K4.out.rd.small; simp only at *; omega)
  rw [hF] at GE
  obtain ⟨gv, hgv⟩ : ∃ gv, gv = gotW len f (p2 : Int) := ⟨_, rfl⟩
  rw [← hgv] at GE hC hG
  clear hgv
  go_quiet ((go_at_call 75; exact Calls.quiet_of_same (GE.out _)))
  generalize hX : Z2.drewN nq = X3
  have hb : Below Z2.heap.size Z2 X3 := by rw [← hX]; exact bdn (Below.refl _ _) _
  have K5 := hid_of (K4.out.below hb)
  clear hb hX K4 c0 c1 GE
  have e4 : IntKind.i64.wrap ((p2 : Int) + 4) = (p2 : Int) + 4 := by rw [IntWalk.i64_left, IntWalk.wrap64_in] <;> (have := K5.out.rd.small; omega)
  have e5 : IntKind.i64.wrap gv = gv := by rw [IntWalk.i64_left, IntWalk.wrap64_in] <;> omega
  have k6 := K5.out.setP rfl (p2 + 4) hL
  rw [show ((p2 + 4 : Nat) : Int) = (p2 : Int) + 4 by omega] at k6
  have k7 := k6.put 2 (.int .i64 gv) ⟨nm, v, gv, ⟨#[]⟩, true⟩ rfl
  have c1 : X3.cell? ⟨b, 1, none⟩ = some (.int .i64 (p2 : Int)) := K5.out.rd.blk.cell 1
  have c2 : X3.cell? ⟨b, 2, none⟩ = some (.int .i64 (-1)) := K5.out.rd.blk.cell 2
  have c3 := K5.out.rd.blk.fz 1
  have c4 : _ = some (Value.int .i64 0) := k6.bx.cell 2
  have c5 := k6.bx.fz 2
  have c6 : _ = some (Value.int .i64 v) := k7.bx.cell 1
  have c7 : _ = some (Value.int .i64 gv) := k7.bx.cell 2
  have c8 := k7.bx.fz 2
  obtain ⟨l6, Zf, s6, b6, r6, gb6⟩ := k7.fin
  have B6 := hid_of b6
  have R6 := hid_of r6
  have G6 := hid_of gb6
  clear b6 r6 gb6 k6 k7 K5
  go_wp2_with fail
  exact ret_cell1 (p := 2) rfl rfl (ldT_run B6.out Tryd.underlying53 rfl (by kernel_rfl)) rfl ⟨_, rfl, (fun _ => by rw [hC]), by rw [hC]; exact R6.out, G6.out⟩
set_option maxHeartbeats 16000000 in
set_option maxRecDepth 20000 in
theorem dcon_l (w : World) (b len cap : Nat) (a : Option Addr) (f : Nat → Int) (s : St) (h : RdD w b a len cap f s) (hs : (textS f len 20 s).2.st = false) (hp : (textS f len 20 s).2.p < len) (h4 : f (textS f len 20 s).2.p ≠ 4) (h6 : f (textS f len 20 s).2.p ≠ 6) (h7 : f (textS f len 20 s).2.p ≠ 7) (hr : rgB 1 7 (f (textS f len 20 s).2.p) = true) (h1 : f (textS f len 20 s).2.p = 1) (hg : gotW len f (((textS f len 20 s).2.p + 1 : Nat) : Int) < 2147483648) (hF : fits len (((textS f len 20 s).2.p + 1 : Nat) : Int) = true) (hG : 0 ≤ gotW len f (((textS f len 20 s).2.p + 1 : Nat) : Int) ∧ gotW len f (((textS f len 20 s).2.p + 1 : Nat) : Int) ≤ 4294967295) : Calls Tryd.prog 44 #[.pointer (some ⟨b, 0, none⟩)] w (PostCn w b a len cap f (conS f len s)) := by
  have TX := hid_of (con_text h)
  have hC : conS f len s = (⟨(textS f len 20 s).1, f (textS f len 20 s).2.p, gotW len f (((textS f len 20 s).2.p + 1 : Nat) : Int), ⟨#[]⟩, true⟩, ⟨(textS f len 20 s).2.p + 1 + 4, false⟩) := by
    rw [conS_of (octP_yes (P := conB) hs hp (by rw [con_rg h4 h6]; exact hr)), if_neg h7, if_pos h1]
    have e : wordS f len ⟨(textS f len 20 s).2.p + 1, false⟩ = (gotW len f (((textS f len 20 s).2.p + 1 : Nat) : Int), ⟨(textS f len 20 s).2.p + 1 + 4, false⟩) := by unfold wordS; rw [hF]; rfl
    rw [e]
    try simp only
    rw [sext_lo hG.1 hg]
  have hL : (textS f len 20 s).2.p + 1 + 4 ≤ len := by unfold fits at hF; have := of_decide_eq_true hF; omega
  simp only [zeroC, cEnc] at TX
  generalize textS f len 20 s = x1 at *
  obtain ⟨nm, s1⟩ := x1
  clear h
  go_enter Tryd.func44, Tryd.ntmps44
  go_wp2_with (go_at_call 42; refine TX.out.mono ?_; rintro e X1 ⟨Z1, rfl, z1, K1⟩)
  clear TX z1
  generalize X1.heap.size = g at K1 ⊢
  clear X1
  have c0 : Z1.cell? ⟨b, 0, none⟩ = some (.slice a len cap) := K1.out.rd.blk.cell 0
  have c1 : Z1.cell? ⟨b, 1, none⟩ = some (.int .i64 (s1.p : Int)) := K1.out.rd.blk.cell 1
  try simp only at hs hC hp h4 h6 h7 hr hF hG hL h1
  try simp only at hg
  have c2 : Z1.cell? ⟨b, 2, none⟩ = some (.int .i64 (-1)) := by rw [K1.out.rd.blk.cell 2]; simp [rdD, hs]
  have d1 : decide ((s1.p : Int) < (len : Int)) = true := decide_eq_true (by omega)
  have d2 : decide (s1.p < len) = true := decide_eq_true (by omega)
  have i0 : (0 : Int) ≤ (s1.p : Int) := by omega
  have i1 : (s1.p : Int) < (len : Int) := by omega
  rcases K1.out.rd.src.rd.2 with e0 | ⟨q, off, rfl, hc⟩
  · omega
  obtain ⟨cq, f0, f1⟩ := hc s1.p hp
  clear hc
  have v4 : ¬ f s1.p = 4 := h4
  have v6 : ¬ f s1.p = 6 := h6
  have w4 : decide (f s1.p = 4) = false := decide_eq_false h4
  have w6 : decide (f s1.p = 6) = false := decide_eq_false h6
  have u4 : (f s1.p == 4) = false := by simpa using h4
  have u6 : (f s1.p == 6) = false := by simpa using h6
  have v7 : ¬ f s1.p = 7 := h7
  have w7 : decide (f s1.p = 7) = false := decide_eq_false h7
  have u7 : (f s1.p == 7) = false := by simpa using h7
  go_quiet (fail)
  generalize hX : Z1.drewN nq = X2
  have hb : Below Z1.heap.size Z1 X2 := by rw [← hX]; exact bdn (Below.refl _ _) _
  have K2 := hid_of (K1.out.below hb)
  clear hb hX K1 c0 c1 c2 d1 d2 i0 i1 cq v4 v6 w4 w6 u4 u6
  have o1 := K2.out.one
  rw [octP_yes hs hp hr] at o1
  obtain ⟨p2, hp2⟩ : ∃ p2, p2 = s1.p + 1 := ⟨_, rfl⟩
  rw [← hp2] at o1 hC hF hG hL hg
  have O1 := hid_of o1
  clear o1 K2 hp2
  generalize f s1.p = v at *
  subst h1
  clear f0 f1
  go_wp2_with (go_at_call 45; refine O1.out.mono ?_; rintro e Y1 ⟨rfl, K3⟩; have y1 : Y1.cell? ⟨g, 1, none⟩ = some (.int .i64 0) := K3.out.bx.cell 1; have y2 := K3.out.bx.fz 1)
  clear O1
  have K4 := hid_of (K3.out.put 1 (.int .i64 1) ⟨nm, 1, 0, ⟨#[]⟩, true⟩ rfl)
  generalize Y1.setCell ⟨g, 1, none⟩ (.int .i64 1) = Z2 at K4 ⊢
  clear K3 y1 y2 Y1
  have c0 : Z2.cell? ⟨b, 0, none⟩ = some (.slice (some ⟨q, off, none⟩) len cap) := K4.out.rd.blk.cell 0
  have c1 : Z2.cell? ⟨b, 1, none⟩ = some (.int .i64 (p2 : Int)) := K4.out.rd.blk.cell 1
  have GE : Hid (∀ k, Calls Tryd.prog 75 #[.slice (some ⟨q, off, none⟩) len cap, .int .i64 (p2 : Int)] (Z2.drewN k) _) := fun k => rget_any _ len cap f p2 (Z2.drewN k) (K4.out.rd.src.below (bdn (Below.refl _ _) k)).rd (by have := K4.out.rd.le; have := K4.out.rd.small; simp only at *; omega)
  rw [hF] at GE
  obtain ⟨gv, hgv⟩ : ∃ gv, gv = gotW len f (p2 : Int) := ⟨_, rfl⟩
  rw [← hgv] at GE hC hG hg
  clear hgv
  go_quiet ((go_at_call 75; exact Calls.quiet_of_same (GE.out _)))
  generalize hX : Z2.drewN nq = X3
  have hb : Below Z2.heap.size Z2 X3 := by rw [← hX]; exact bdn (Below.refl _ _) _
  have K5 := hid_of (K4.out.below hb)
  clear hb hX K4 c0 c1 GE
  have e4 : IntKind.i64.wrap ((p2 : Int) + 4) = (p2 : Int) + 4 := by rw [IntWalk.i64_left, IntWalk.wrap64_in] <;> (have := K5.out.rd.small; omega)
  have e5 : IntKind.i64.wrap gv = gv := by rw [IntWalk.i64_left, IntWalk.wrap64_in] <;> omega
  have k6 := K5.out.setP rfl (p2 + 4) hL
  rw [show ((p2 + 4 : Nat) : Int) = (p2 : Int) + 4 by omega] at k6
  have k7 := k6.put 2 (.int .i64 gv) ⟨nm, 1, gv, ⟨#[]⟩, true⟩ rfl
  have g1 : decide (2147483648 ≤ gv) = false := decide_eq_false (by omega)
  have c1 : X3.cell? ⟨b, 1, none⟩ = some (.int .i64 (p2 : Int)) := K5.out.rd.blk.cell 1
  have c2 : X3.cell? ⟨b, 2, none⟩ = some (.int .i64 (-1)) := K5.out.rd.blk.cell 2
  have c3 := K5.out.rd.blk.fz 1
  have c4 : _ = some (Value.int .i64 0) := k6.bx.cell 2
  have c5 := k6.bx.fz 2
  have c6 : _ = some (Value.int .i64 1) := k7.bx.cell 1
  have c7 : _ = some (Value.int .i64 gv) := k7.bx.cell 2
  have c8 := k7.bx.fz 2
  obtain ⟨l6, Zf, s6, b6, r6, gb6⟩ := k7.fin
  have B6 := hid_of b6
  have R6 := hid_of r6
  have G6 := hid_of gb6
  clear b6 r6 gb6 k6 k7 K5
  go_wp2_with fail
  exact ret_cell1 (p := 2) rfl rfl (ldT_run B6.out Tryd.underlying53 rfl (by kernel_rfl)) rfl ⟨_, rfl, (fun _ => by rw [hC]), by rw [hC]; exact R6.out, G6.out⟩
set_option maxHeartbeats 16000000 in
set_option maxRecDepth 20000 in
theorem dcon_h (w : World) (b len cap : Nat) (a : Option Addr) (f : Nat → Int) (s : St) (h : RdD w b a len cap f s) (hs : (textS f len 20 s).2.st = false) (hp : (textS f len 20 s).2.p < len) (h4 : f (textS f len 20 s).2.p ≠ 4) (h6 : f (textS f len 20 s).2.p ≠ 6) (h7 : f (textS f len 20 s).2.p ≠ 7) (hr : rgB 1 7 (f (textS f len 20 s).2.p) = true) (h1 : f (textS f len 20 s).2.p = 1) (hg : 2147483648 ≤ gotW len f (((textS f len 20 s).2.p + 1 : Nat) : Int)) (hF : fits len (((textS f len 20 s).2.p + 1 : Nat) : Int) = true) (hG : 0 ≤ gotW len f (((textS f len 20 s).2.p + 1 : Nat) : Int) ∧ gotW len f (((textS f len 20 s).2.p + 1 : Nat) : Int) ≤ 4294967295) : Calls Tryd.prog 44 #[.pointer (some ⟨b, 0, none⟩)] w (PostCn w b a len cap f (conS f len s)) := by
  have TX := hid_of (con_text h)
  have hC : conS f len s = (⟨(textS f len 20 s).1, f (textS f len 20 s).2.p, (gotW len f (((textS f len 20 s).2.p + 1 : Nat) : Int) - 4294967296), ⟨#[]⟩, true⟩, ⟨(textS f len 20 s).2.p + 1 + 4, false⟩) := by
    rw [conS_of (octP_yes (P := conB) hs hp (by rw [con_rg h4 h6]; exact hr)), if_neg h7, if_pos h1]
    have e : wordS f len ⟨(textS f len 20 s).2.p + 1, false⟩ = (gotW len f (((textS f len 20 s).2.p + 1 : Nat) : Int), ⟨(textS f len 20 s).2.p + 1 + 4, false⟩) := by unfold wordS; rw [hF]; rfl
    rw [e]
    try simp only
    rw [sext_hi hg hG.2]
  have hL : (textS f len 20 s).2.p + 1 + 4 ≤ len := by unfold fits at hF; have := of_decide_eq_true hF; omega
  simp only [zeroC, cEnc] at TX
  generalize textS f len 20 s = x1 at *
  obtain ⟨nm, s1⟩ := x1
  clear h
  go_enter Tryd.func44, Tryd.ntmps44
  go_wp2_with (go_at_call 42; refine TX.out.mono ?_; rintro e X1 ⟨Z1, rfl, z1, K1⟩)
  clear TX z1
  generalize X1.heap.size = g at K1 ⊢
  clear X1
  have c0 : Z1.cell? ⟨b, 0, none⟩ = some (.slice a len cap) := K1.out.rd.blk.cell 0
  have c1 : Z1.cell? ⟨b, 1, none⟩ = some (.int .i64 (s1.p : Int)) := K1.out.rd.blk.cell 1
  try simp only at hs hC hp h4 h6 h7 hr hF hG hL h1
  try simp only at hg
  have c2 : Z1.cell? ⟨b, 2, none⟩ = some (.int .i64 (-1)) := by rw [K1.out.rd.blk.cell 2]; simp [rdD, hs]
  have d1 : decide ((s1.p : Int) < (len : Int)) = true := decide_eq_true (by omega)
  have d2 : decide (s1.p < len) = true := decide_eq_true (by omega)
  have i0 : (0 : Int) ≤ (s1.p : Int) := by omega
  have i1 : (s1.p : Int) < (len : Int) := by omega
  rcases K1.out.rd.src.rd.2 with e0 | ⟨q, off, rfl, hc⟩
  · omega
  obtain ⟨cq, f0, f1⟩ := hc s1.p hp
  clear hc
  have v4 : ¬ f s1.p = 4 := h4
  have v6 : ¬ f s1.p = 6 := h6
  have w4 : decide (f s1.p = 4) = false := decide_eq_false h4
  have w6 : decide (f s1.p = 6) = false := decide_eq_false h6
  have u4 : (f s1.p == 4) = false := by simpa using h4
  have u6 : (f s1.p == 6) = false := by simpa using h6
  have v7 : ¬ f s1.p = 7 := h7
  have w7 : decide (f s1.p = 7) = false := decide_eq_false h7
  have u7 : (f s1.p == 7) = false := by simpa using h7
  go_quiet (fail)
  generalize hX : Z1.drewN nq = X2
  have hb : Below Z1.heap.size Z1 X2 := by rw [← hX]; exact bdn (Below.refl _ _) _
  have K2 := hid_of (K1.out.below hb)
  clear hb hX K1 c0 c1 c2 d1 d2 i0 i1 cq v4 v6 w4 w6 u4 u6
  have o1 := K2.out.one
  rw [octP_yes hs hp hr] at o1
  obtain ⟨p2, hp2⟩ : ∃ p2, p2 = s1.p + 1 := ⟨_, rfl⟩
  rw [← hp2] at o1 hC hF hG hL hg
  have O1 := hid_of o1
  clear o1 K2 hp2
  generalize f s1.p = v at *
  subst h1
  clear f0 f1
  go_wp2_with (go_at_call 45; refine O1.out.mono ?_; rintro e Y1 ⟨rfl, K3⟩; have y1 : Y1.cell? ⟨g, 1, none⟩ = some (.int .i64 0) := K3.out.bx.cell 1; have y2 := K3.out.bx.fz 1)
  clear O1
  have K4 := hid_of (K3.out.put 1 (.int .i64 1) ⟨nm, 1, 0, ⟨#[]⟩, true⟩ rfl)
  generalize Y1.setCell ⟨g, 1, none⟩ (.int .i64 1) = Z2 at K4 ⊢
  clear K3 y1 y2 Y1
  have c0 : Z2.cell? ⟨b, 0, none⟩ = some (.slice (some ⟨q, off, none⟩) len cap) := K4.out.rd.blk.cell 0
  have c1 : Z2.cell? ⟨b, 1, none⟩ = some (.int .i64 (p2 : Int)) := K4.out.rd.blk.cell 1
  have GE : Hid (∀ k, Calls Tryd.prog 75 #[.slice (some ⟨q, off, none⟩) len cap, .int .i64 (p2 : Int)] (Z2.drewN k) _) := fun k => rget_any _ len cap f p2 (Z2.drewN k) (K4.out.rd.src.below (bdn (Below.refl _ _) k)).rd (by have := K4.out.rd.le; have := K4.out.rd.small; simp only at *; omega)
  rw [hF] at GE
  obtain ⟨gv, hgv⟩ : ∃ gv, gv = gotW len f (p2 : Int) := ⟨_, rfl⟩
  rw [← hgv] at GE hC hG hg
  clear hgv
  go_quiet ((go_at_call 75; exact Calls.quiet_of_same (GE.out _)))
  generalize hX : Z2.drewN nq = X3
  have hb : Below Z2.heap.size Z2 X3 := by rw [← hX]; exact bdn (Below.refl _ _) _
  have K5 := hid_of (K4.out.below hb)
  clear hb hX K4 c0 c1 GE
  have e4 : IntKind.i64.wrap ((p2 : Int) + 4) = (p2 : Int) + 4 := by rw [IntWalk.i64_left, IntWalk.wrap64_in] <;> (have := K5.out.rd.small; omega)
  have e5 : IntKind.i64.wrap gv = gv := by rw [IntWalk.i64_left, IntWalk.wrap64_in] <;> omega
  have k6 := K5.out.setP rfl (p2 + 4) hL
  rw [show ((p2 + 4 : Nat) : Int) = (p2 : Int) + 4 by omega] at k6
  have k7 := k6.put 2 (.int .i64 gv) ⟨nm, 1, gv, ⟨#[]⟩, true⟩ rfl
  have k8 := k7.put 2 (.int .i64 (gv - 4294967296)) ⟨nm, 1, gv - 4294967296, ⟨#[]⟩, true⟩ rfl
  have e6 : IntKind.i64.wrap (gv - 4294967296) = gv - 4294967296 := by rw [IntWalk.i64_left, IntWalk.wrap64_in] <;> omega
  have g1 : decide (2147483648 ≤ gv) = true := decide_eq_true hg
  have c1 : X3.cell? ⟨b, 1, none⟩ = some (.int .i64 (p2 : Int)) := K5.out.rd.blk.cell 1
  have c2 : X3.cell? ⟨b, 2, none⟩ = some (.int .i64 (-1)) := K5.out.rd.blk.cell 2
  have c3 := K5.out.rd.blk.fz 1
  have c4 : _ = some (Value.int .i64 0) := k6.bx.cell 2
  have c5 := k6.bx.fz 2
  have c6 : _ = some (Value.int .i64 1) := k7.bx.cell 1
  have c7 : _ = some (Value.int .i64 gv) := k7.bx.cell 2
  have c8 := k7.bx.fz 2
  obtain ⟨l6, Zf, s6, b6, r6, gb6⟩ := k8.fin
  have B6 := hid_of b6
  have R6 := hid_of r6
  have G6 := hid_of gb6
  clear b6 r6 gb6 k6 k7 k8 K5
  go_wp2_with fail
  exact ret_cell1 (p := 2) rfl rfl (ldT_run B6.out Tryd.underlying53 rfl (by kernel_rfl)) rfl ⟨_, rfl, (fun _ => by rw [hC]), by rw [hC]; exact R6.out, G6.out⟩
theorem dconst_any (w : World) (b len cap : Nat) (a : Option Addr) (f : Nat → Int) (s : St) (h : RdD w b a len cap f s) : Calls Tryd.prog 44 #[.pointer (some ⟨b, 0, none⟩)] w (PostCn w b a len cap f (conS f len s)) := by
  cases hs : (textS f len 20 s).2.st
  · by_cases hp : (textS f len 20 s).2.p < len
    · by_cases h4 : f (textS f len 20 s).2.p = 4
      · exact dcon_c4 w b len cap a f s h hs hp h4
      by_cases h6 : f (textS f len 20 s).2.p = 6
      · exact dcon_c6 w b len cap a f s h hs hp h6
      cases hr : rgB 1 7 (f (textS f len 20 s).2.p)
      · exact dcon_d w b len cap a f s h hs hp h4 h6 hr
      by_cases h7 : f (textS f len 20 s).2.p = 7
      · exact dcon_s w b len cap a f s h hs hp h7
      cases hF : fits len (((textS f len 20 s).2.p + 1 : Nat) : Int)
      · exact dcon_n w b len cap a f s h hs hp h4 h6 h7 hr hF
      have hf : ∀ i, i < len → 0 ≤ f i ∧ f i ≤ 255 := fun i hi => by
        rcases h.src.rd.2 with e0 | ⟨q, off, _, hc⟩
        · omega
        · exact (hc i hi).2
      have hG := wordS_bd hf ⟨(textS f len 20 s).2.p + 1, false⟩
      have e : (wordS f len ⟨(textS f len 20 s).2.p + 1, false⟩).1 = gotW len f (((textS f len 20 s).2.p + 1 : Nat) : Int) := by unfold wordS; rw [hF]; rfl
      rw [e] at hG
      by_cases h1 : f (textS f len 20 s).2.p = 1
      · by_cases hg : gotW len f (((textS f len 20 s).2.p + 1 : Nat) : Int) < 2147483648
        · exact dcon_l w b len cap a f s h hs hp h4 h6 h7 hr h1 hg hF hG
        · exact dcon_h w b len cap a f s h hs hp h4 h6 h7 hr h1 (by omega) hF hG
      · exact dcon_w w b len cap a f s h hs hp h4 h6 h7 hr h1 hF hG
    · exact dcon_b w b len cap a f s h hs (by omega)
  · exact dcon_a w b len cap a f s h hs
end Go.Proofs.YtcppgpcgbggdcaaDoor

namespace Go.Proofs.YtcppgpcgbggdcaaDoor
set_option linter.unusedVariables false
set_option linter.unusedSimpArgs false
open Go.ChangeShapes Go.WideShapes Go.ChangeAt Go.RowKit

theorem own_nil (X : World) (B : Nat) (e : TypeId) (k : Nat) : X.ownsRow B e k (.slice none 0 0) 0 [] := ⟨by simp, .inl ⟨rfl, rfl⟩⟩
/-- An element put behind a row of the call's own. -/
theorem app_el {X : World} {B n k by_ : Nat} {v : Value} {xs : List Value} {ts e : TypeId} {i : TypeInfo} {z : Value} (ht : Tryd.prog.underlying ts = some (.slice e)) (hi : Tryd.prog.info? e = some i) (hz : i.zero = some z) (hsize : i.size = k) (hby : i.bytes = by_) (hzs : z.cells.size = k) (hk : 0 < k) (hb : by_ ≤ 1000) (cs : Array Value) (hcs : cs.size = k) (h1 : ∀ u ∈ cs.toList, u.oneCell' = true) (h : X.ownsRow B e k v n xs) (hB : B ≤ X.heap.size) (hn : n ≤ 100000) :
    ∃ (s : Sl) (Y : World), (appN #[ts, ts] ts #[v, .slice (some ⟨X.heap.size, 0, none⟩) 1 1]).run Tryd.prog (X.alloc (.cells cs e)) = .ok (.slice s.a s.n s.c) Y ∧ Y.ownsRow B e k (.slice s.a s.n s.c) (n + 1) (xs ++ cs.toList) ∧ (X.alloc (.cells cs e)).grownBy Y v.ownBlock := by
  have hbl : (X.alloc (.cells cs e)).ownsRow B e k v n xs := h.alloc _
  have hbm : (n + 1) * by_ ≤ 100001 * 1000 := Nat.mul_le_mul (by omega) hb
  obtain ⟨v', Y, r1, r2, r3, _⟩ := run_append_own (P := Tryd.prog) (w := X.alloc (.cells cs e)) B ts ts e i z k by_ ht hi hz hsize hby hzs hk v n xs hbl ⟨X.heap.size, 0, none⟩ 1 1 cs.toList (by rw [Array.length_toList, hcs, Nat.one_mul]) (fun j u hu => by
    have hbk : (X.alloc (.cells cs e)).heap[X.heap.size]? = some (.cells cs e (0, 0)) := blk_new _ _
    rw [Go.WideShapes.add_plain, Nat.zero_add, blk_cell hbk]
    simpa using hu) h1 (by unfold maxLen; omega) (by omega) (by simp; omega)
  obtain ⟨va, vn, vc, rfl⟩ := own_slice r2
  exact ⟨⟨va, vn, vc⟩, Y, r1, r2, r3⟩
/-- A row's block is no box of another sort. -/
theorem own_box {X : World} {B g : Nat} {E ty : TypeId} {k : Nat} {v : Value} {n : Nat} {xs : List Value} {cs : Array Value} (h : X.ownsRow B E k v n xs) (hb : BA X g ty cs) (hne : ty ≠ E) {q : Nat} (hq : v.ownBlock = some q) : q ≠ g := by
  rcases h.2 with ⟨hv, h0⟩ | ⟨g', cap, cur, hv, hB, hh, _⟩
  · rw [hv] at hq; cases hq
  · rw [hv] at hq
    simp [Value.ownBlock] at hq
    subst hq
    rintro rfl
    unfold BA at hb
    rw [hh] at hb
    injection hb with hb
    injection hb with _ hb _
    exact hne hb.symm
/-- What stands while rows grow: the reader, a struct in its box, the answer's place. -/
structure LJ (X0 X : World) (b len cap : Nat) (a : Option Addr) (f : Nat → Int) (ty : TypeId) (ob rs : Nat) (cs zs : Array Value) (s : St) : Prop where
  rd : RdD X b a len cap f s
  bx : BA X ob ty cs
  rz : BA X rs ty zs
  tq : Tq X0 X (fun y => y = b ∨ y = ob)
/-- Where things lie. -/
structure Pj (X0 : World) (b ob rs : Nat) (a : Option Addr) : Prop where
  bo : b ≠ ob
  br : b ≠ rs
  or_ : ob ≠ rs
  lb : b < X0.heap.size
  lo : ob < X0.heap.size
  lr : rs < X0.heap.size
  ad : ∀ x, a = some x → x.block ≠ ob ∧ x.block ≠ rs ∧ x.block < X0.heap.size
theorem own_drew {X : World} {E : TypeId} {k B : Nat} {v : Value} {n : Nat} {xs : List Value} (ho : X.ownsRow B E k v n xs) : X.drew.ownsRow B E k v n xs := ho
section
variable {X0 X w1 : World} {b len cap : Nat} {a : Option Addr} {f : Nat → Int} {ty : TypeId} {ob rs : Nat} {cs zs : Array Value} {s s1 : St}
theorem own_read {E : TypeId} {k : Nat} {v : Value} {n : Nat} {xs : List Value} (ho : X.ownsRow X0.heap.size E k v n xs) (p : Pj X0 b ob rs a) (hg : X.grownBy w1 (some b)) : w1.ownsRow X0.heap.size E k v n xs := own_gb ho p.lb hg
theorem LJ.size (h : LJ X0 X b len cap a f ty ob rs cs zs s) : X0.heap.size ≤ X.heap.size := h.tq.size
theorem LJ.read (h : LJ X0 X b len cap a f ty ob rs cs zs s) (p : Pj X0 b ob rs a) (hr : RdD w1 b a len cap f s1) (hg : X.grownBy w1 (some b)) : LJ X0 w1 b len cap a f ty ob rs cs zs s1 :=
  ⟨hr, h.bx.keep hg (fun e => p.bo e.symm), h.rz.keep hg (fun e => p.br e.symm), h.tq.trans (Tq.gb hg fun k e => by injection e with e; exact .inl e.symm)⟩
theorem LJ.drew (h : LJ X0 X b len cap a f ty ob rs cs zs s) : LJ X0 X.drew b len cap a f ty ob rs cs zs s :=
  ⟨h.rd.below (Below.refl _ _).drew, h.bx, h.rz, h.tq.trans (Tq.below (Below.refl X.heap.size X).drew)⟩
theorem LJ.alloc (h : LJ X0 X b len cap a f ty ob rs cs zs s) (x : Obj) : LJ X0 (X.alloc x) b len cap a f ty ob rs cs zs s :=
  ⟨h.rd.below ((Below.refl _ _).alloc (Nat.le_refl _) _), h.bx.below ((Below.refl _ _).alloc (Nat.le_refl _) _), h.rz.below ((Below.refl _ _).alloc (Nat.le_refl _) _), h.tq.trans (Tq.below ((Below.refl _ _).alloc (Nat.le_refl _) _))⟩
/-- One field's row has grown. -/
theorem LJ.app {E ts : TypeId} {k by_ n j : Nat} {xs : List Value} {i : TypeInfo} {z : Value} {sl : Sl} (h : LJ X0 X b len cap a f ty ob rs cs zs s) (p : Pj X0 b ob rs a) (ht : Tryd.prog.underlying ts = some (.slice E)) (hi : Tryd.prog.info? E = some i) (hz : i.zero = some z) (hsize : i.size = k) (hby : i.bytes = by_) (hzs : z.cells.size = k) (hk : 0 < k) (hb : by_ ≤ 1000) (es : Array Value) (hcs : es.size = k) (h1 : ∀ u ∈ es.toList, u.oneCell' = true)
    (ho : X.ownsRow X0.heap.size E k (.slice sl.a sl.n sl.c) n xs) (hn : n ≤ 100000) (hj : cs[j]? = some (.slice sl.a sl.n sl.c)) :
    ∃ (s' : Sl) (Y : World), (appN #[ts, ts] ts #[.slice sl.a sl.n sl.c, .slice (some ⟨X.heap.size, 0, none⟩) 1 1]).run Tryd.prog (X.alloc (.cells es E)) = .ok (.slice s'.a s'.n s'.c) Y ∧ Y.cell? ⟨ob, j, none⟩ = some (.slice sl.a sl.n sl.c) ∧ Y.frozen? ⟨ob, j, none⟩ = false ∧ X.cell? ⟨ob, j, none⟩ = some (.slice sl.a sl.n sl.c) ∧ (X.alloc (.cells es E)).cell? ⟨ob, j, none⟩ = some (.slice sl.a sl.n sl.c) ∧ Hid (LJ X0 (Y.setCell ⟨ob, j, none⟩ (.slice s'.a s'.n s'.c)) b len cap a f ty ob rs (cs.setIfInBounds j (.slice s'.a s'.n s'.c)) zs s ∧ (Y.setCell ⟨ob, j, none⟩ (.slice s'.a s'.n s'.c)).ownsRow X0.heap.size E k (.slice s'.a s'.n s'.c) (n + 1) (xs ++ es.toList) ∧ ∀ (E2 : TypeId) (k2 : Nat) (v2 : Value) (n2 : Nat) (xs2 : List Value), E ≠ E2 → X.ownsRow X0.heap.size E2 k2 v2 n2 xs2 → (Y.setCell ⟨ob, j, none⟩ (.slice s'.a s'.n s'.c)).ownsRow X0.heap.size E2 k2 v2 n2 xs2) := by
  obtain ⟨s', Y, r1, r2, r3⟩ := app_el ht hi hz hsize hby hzs hk hb es hcs h1 ho h.size hn
  have hA := h.alloc (.cells es E)
  have hlo : ∀ g, (Value.slice sl.a sl.n sl.c).ownBlock = some g → X0.heap.size ≤ g := fun g hg => own_lo ho g hg
  have tY : Tq (X.alloc (.cells es E)) Y (fun g => (Value.slice sl.a sl.n sl.c).ownBlock = some g) := Tq.gb r3 fun k e => e
  have p1 := p.lb
  have p2 := p.lo
  have p3 := p.lr
  have oY : BA Y ob ty cs := hA.bx.tq tY (fun e => by have := hlo ob e; omega)
  have zY : BA Y rs ty zs := hA.rz.tq tY (fun e => by have := hlo rs e; omega)
  have dY : RdD Y b a len cap f s := hA.rd.tq tY (fun e => by have := hlo b e; omega) (fun ad he e => by have := hlo _ e; have := (p.ad ad he).2.2; omega)
  have tS : Tq Y (Y.setCell ⟨ob, j, none⟩ (.slice s'.a s'.n s'.c)) (fun g => g = ob) := Tq.set rfl
  refine ⟨s', Y, r1, (oY.cell j).trans hj, oY.fz j, (h.bx.cell j).trans hj, (hA.bx.cell j).trans hj, ⟨dY.tq tS p.bo (fun ad he => (p.ad ad he).1), oY.set _, zY.tq tS (fun e => p.or_ e.symm), ?_⟩, tS.own r2 (fun g hg => by have := own_lo r2 g hg; omega), fun E2 k2 v2 n2 xs2 hne ho2 => ?_⟩
  · refine ((hA.tq.mono (Q := fun y => (y = b ∨ y = ob) ∨ X0.heap.size ≤ y) fun k _ e => .inl e).trans ((tY.mono (Q := fun y => (y = b ∨ y = ob) ∨ X0.heap.size ≤ y) fun k _ e => .inr (hlo k e)).trans (tS.mono fun k _ e => .inl (.inr e)))).mono fun k hk e => ?_
    rcases e with e | e
    · exact e
    · omega
  · have hA2 : (X.alloc (.cells es E)).ownsRow X0.heap.size E2 k2 v2 n2 xs2 := ho2.alloc _
    have hA1 : (X.alloc (.cells es E)).ownsRow X0.heap.size E k (.slice sl.a sl.n sl.c) n xs := ho.alloc _
    have hY2 := tY.own hA2 (fun g hg e => own_two hA1 hA2 hne e hg)
    exact tS.own hY2 (fun g hg => by have := own_lo hY2 g hg; omega)
end
/-- The same, with a thing of its own that is being filled in block D. -/
structure MJ (X0 X : World) (b len cap : Nat) (a : Option Addr) (f : Nat → Int) (ty : TypeId) (ob rs : Nat) (cs zs : Array Value) (s : St) (D : Nat) (es : Array Value) (t : TypeId) (E : TypeId) (k : Nat) (v : Value) (n : Nat) (xs : List Value) : Prop where
  li : LJ X0 X b len cap a f ty ob rs cs zs s
  ow : X.ownsRow X0.heap.size E k v n xs
  bd : BA X D t es
  lo : X0.heap.size ≤ D
  ne : v.ownBlock ≠ some D
section
variable {X0 X w1 : World} {b len cap : Nat} {a : Option Addr} {f : Nat → Int} {ty : TypeId} {ob rs : Nat} {cs zs : Array Value} {s s1 : St} {D : Nat} {es : Array Value} {t E : TypeId} {k n : Nat} {v : Value} {xs : List Value}
theorem MJ.new (h : LJ X0 X b len cap a f ty ob rs cs zs s) (ho : X.ownsRow X0.heap.size E k v n xs) (es : Array Value) (t : TypeId) : MJ X0 (X.alloc (.cells es t)) b len cap a f ty ob rs cs zs s X.heap.size es t E k v n xs :=
  ⟨h.alloc _, ho.alloc _, BA.new _ _ _, h.size, fun e => by have := (ho.lt _ e).2; omega⟩
theorem MJ.read (h : MJ X0 X b len cap a f ty ob rs cs zs s D es t E k v n xs) (p : Pj X0 b ob rs a) (hr : RdD w1 b a len cap f s1) (hg : X.grownBy w1 (some b)) : MJ X0 w1 b len cap a f ty ob rs cs zs s1 D es t E k v n xs :=
  ⟨h.li.read p hr hg, own_read h.ow p hg, h.bd.keep hg (by have := p.lb; have := h.lo; omega), h.lo, h.ne⟩
theorem MJ.set (h : MJ X0 X b len cap a f ty ob rs cs zs s D es t E k v n xs) (p : Pj X0 b ob rs a) (j : Nat) (u : Value) : MJ X0 (X.setCell ⟨D, j, none⟩ u) b len cap a f ty ob rs cs zs s D (es.setIfInBounds j u) t E k v n xs := by
  have tS : Tq X (X.setCell ⟨D, j, none⟩ u) (fun g => g = D) := Tq.set rfl
  have lo := h.lo
  have p1 := p.lb
  have p2 := p.lo
  have p3 := p.lr
  refine ⟨⟨h.li.rd.tq tS (by omega) (fun ad he => by have := (p.ad ad he).2.2; omega), h.li.bx.tq tS (by omega), h.li.rz.tq tS (by omega), ?_⟩, tS.own h.ow (fun g hg e => h.ne (by rw [hg, e])), h.bd.set _, h.lo, h.ne⟩
  refine ((h.li.tq.mono (Q := fun y => (y = b ∨ y = ob) ∨ X0.heap.size ≤ y) fun k _ e => .inl e).trans (tS.mono fun k _ e => .inr (by rw [e]; exact lo))).mono fun k hk e => ?_
  rcases e with e | e
  · exact e
  · omega
theorem MJ.cell (h : MJ X0 X b len cap a f ty ob rs cs zs s D es t E k v n xs) (j : Nat) : X.cell? ⟨D, j, none⟩ = es[j]? := h.bd.cell j
theorem MJ.fz (h : MJ X0 X b len cap a f ty ob rs cs zs s D es t E k v n xs) (j : Nat) : X.frozen? ⟨D, j, none⟩ = false := h.bd.fz j
end
/-- How far a row was read: all that will come of it, or that it is stuck. -/
def Lp {α : Type} (rd : St → α × St) (R : List α × St) (m : Nat) (acc : List α) (s : St) : Prop := (s.st = false ∧ loopS rd m acc s = R) ∨ (s.st = true ∧ R.2 = s)
theorem Lp.start {α : Type} (rd : St → α × St) (m : Nat) (s : St) (h : s.st = true → m = 0) : Lp rd (loopS rd m [] s) m [] s := by
  cases hs : s.st
  · exact .inl ⟨hs, rfl⟩
  · have := h hs
    subst this
    exact .inr ⟨hs, rfl⟩
theorem Lp.next {α : Type} {rd : St → α × St} {R : List α × St} {m : Nat} {acc : List α} {s : St} (h : Lp rd R (m + 1) acc s) (hs : s.st = false) : Lp rd R m (acc ++ [(rd s).1]) (rd s).2 := by
  rcases h with ⟨_, h⟩ | ⟨e, _⟩
  · rw [loopS] at h
    cases hx : (rd s).2.st
    · rw [hx] at h
      exact .inl ⟨hx, h⟩
    · rw [hx] at h
      exact .inr ⟨hx, by rw [← h]; rfl⟩
  · rw [hs] at e; cases e
theorem Lp.fin {α : Type} {rd : St → α × St} {R : List α × St} {m : Nat} {acc : List α} {s : St} (h : Lp rd R m acc s) (hm : m = 0 ∨ s.st = true) : R.2 = s ∧ (s.st = false → R.1 = acc) := by
  rcases h with ⟨h1, h2⟩ | ⟨h1, h2⟩
  · rcases hm with rfl | hm
    · rw [← h2]; exact ⟨rfl, fun _ => rfl⟩
    · rw [h1] at hm; cases hm
  · exact ⟨h2, fun e => by rw [h1] at e; cases e⟩
theorem num_zero {f : Nat → Int} {len : Nat} {most : Int} {s : St} (h : (numS f len most s).2.st = true) : (numS f len most s).1 = 0 := by
  unfold numS at h ⊢
  cases hu : uintR f len s.p with
  | none => rfl
  | some r =>
    obtain ⟨n, i⟩ := r
    rw [hu] at h
    simp only at h ⊢
    split
    · rename_i hc
      rw [if_pos hc] at h
      cases h
    · rfl
theorem dnum_nat (w : World) (b len cap : Nat) (a : Option Addr) (f : Nat → Int) (s : St) (h : RdD w b a len cap f s) (most : Int) (m0 : 0 ≤ most) (m1 : most ≤ 4294967295) : Calls Tryd.prog 43 #[.pointer (some ⟨b, 0, none⟩), .int .u32 most] w fun e w' => ∃ nn : Nat, e = .returned (.int .i64 (nn : Int)) ∧ Hid (RdD w' b a len cap f (numS f len most s).2 ∧ w.grownBy w' (some b) ∧ nn = (numS f len most s).1.toNat ∧ (nn : Int) ≤ most) := (dnumber_any w b len cap a f s h most m0 m1).mono fun e w' hh => by
  obtain ⟨h1, h2, h3⟩ := hh
  have hb := numS_bd f len most s m0
  refine ⟨(numS f len most s).1.toNat, by rw [h1, Int.toNat_of_nonneg hb.1], h2, h3, rfl, by rw [Int.toNat_of_nonneg hb.1]; exact hb.2⟩
theorem RdD.c2l {w : World} {b len cap : Nat} {a : Option Addr} {f : Nat → Int} {p : Nat} (h : RdD w b a len cap f ⟨p, false⟩) : w.cell? ⟨b, 2, none⟩ = some (.int .i64 (-1)) := by rw [h.blk.cell 2]; rfl
theorem RdD.c2s {w : World} {b len cap : Nat} {a : Option Addr} {f : Nat → Int} {p : Nat} (h : RdD w b a len cap f ⟨p, true⟩) : w.cell? ⟨b, 2, none⟩ = some (.int .i64 (p : Int)) := by rw [h.blk.cell 2]; rfl
theorem octP_rg {f : Nat → Int} {len : Nat} {P Q : Int → Bool} {s : St} (h : ∀ v, s.p < len → v = f s.p → P v = Q v) : octP f len P s = octP f len Q s := by
  unfold octP
  by_cases hp : s.p < len
  · rw [h (f s.p) hp rfl]
  · simp [hp]
theorem octP_st_ {f : Nat → Int} {len : Nat} {P : Int → Bool} {s : St} (h : (octP f len P s).2.st = false) : s.st = false := by
  unfold octP at h
  cases hs : s.st
  · rfl
  · simp [hs] at h
theorem plain_rg : plainB = rgB 1 5 := rfl
theorem res_rg (v : Int) : resB v = rgB 0 5 v := by
  unfold resB plainB rgB
  by_cases h : v = 0
  · subst h; rfl
  · rw [decide_eq_false h, Bool.false_or]
    by_cases h1 : 1 ≤ v
    · rw [decide_eq_true h1, decide_eq_true (show (0 : Int) ≤ v by omega)]
    · rw [decide_eq_false h1, decide_eq_false (show ¬ (0 : Int) ≤ v by omega)]
theorem bit_rg {v : Int} (h : 0 ≤ v) : bitB v = rgB 0 3 v := by
  unfold bitB rgB
  rw [decide_eq_true h, Bool.true_and]
/-- Between the steps: the reader, a struct in its box, the answer's place. -/
structure SJ (w X : World) (b len cap : Nat) (a : Option Addr) (f : Nat → Int) (ty : TypeId) (ob rs : Nat) (cs zs : Array Value) (s : St) : Prop where
  rd : RdD X b a len cap f s
  bx : BA X ob ty cs
  rz : BA X rs ty zs
  gb : w.grownBy X (some b)
  bl : b < w.heap.size
  al : ∀ ad, a = some ad → ad.block < w.heap.size ∧ ad.block ≠ rs
  rl : rs < w.heap.size
  ol : w.heap.size ≤ ob
  rb : rs ≠ b
section
variable {w X X0 Y w1 : World} {b len cap : Nat} {a : Option Addr} {f : Nat → Int} {ty : TypeId} {ob rs : Nat} {cs zs cs' : Array Value} {s s1 : St}
theorem SJ.pj (h : SJ w X b len cap a f ty ob rs cs zs s) : Pj X b ob rs a := by
  have h1 := h.bl
  have h2 := h.rl
  have h3 := h.ol
  have h4 := h.rb
  refine ⟨by omega, h4.symm, by omega, h.rd.bl, h.bx.lt, h.rz.lt, fun x hx => ?_⟩
  have := h.al x hx
  exact ⟨by omega, this.2, (h.rd.ap x hx).2⟩
theorem SJ.lj (h : SJ w X b len cap a f ty ob rs cs zs s) : LJ X X b len cap a f ty ob rs cs zs s := ⟨h.rd, h.bx, h.rz, ⟨rfl, rfl, rfl, Nat.le_refl _, fun _ _ _ => rfl⟩⟩
theorem SJ.join (h : SJ w X0 b len cap a f ty ob rs cs zs s) (l : LJ X0 X b len cap a f ty ob rs cs' zs s1) : SJ w X b len cap a f ty ob rs cs' zs s1 := by
  have h3 := h.ol
  refine ⟨l.rd, l.bx, l.rz, ?_, h.bl, h.al, h.rl, h.ol, h.rb⟩
  exact ⟨l.tq.os.trans h.gb.os, l.tq.tape.trans h.gb.tape, l.tq.output.trans h.gb.output, Nat.le_trans h.gb.size l.tq.size, fun k hk hne => (l.tq.blk k (Nat.lt_of_lt_of_le hk h.gb.size) (fun e => by rcases e with e | e; exact hne (by rw [e]); omega)).trans (h.gb.block k hk hne)⟩
theorem SJ.call (h : SJ w X b len cap a f ty ob rs cs zs s) (hr : RdD Y b a len cap f s1) (hg : X.grownBy Y (some b)) : SJ w Y b len cap a f ty ob rs cs zs s1 := h.join (h.lj.read h.pj hr hg)
theorem SJ.put (h : SJ w X b len cap a f ty ob rs cs zs s) (j : Nat) (v : Value) : SJ w (X.setCell ⟨ob, j, none⟩ v) b len cap a f ty ob rs (cs.setIfInBounds j v) zs s := by
  have t : Tq X (X.setCell ⟨ob, j, none⟩ v) (fun k => k = ob) := Tq.set rfl
  have h1 := h.bl
  have h2 := h.rl
  have h3 := h.ol
  exact h.join ⟨h.rd.tq t (by omega) (fun ad he => by have := h.al ad he; omega), h.bx.set v, h.rz.tq t (by omega), t.mono fun k _ e => .inr e⟩
/-- The box, laid. -/
theorem SJ.start (cs : Array Value) (h0 : BA w rs ty zs) (hb : b < w.heap.size) (ha : ∀ ad, a = some ad → ad.block < w.heap.size ∧ ad.block ≠ rs) (hrb : rs ≠ b) (hr : RdD X b a len cap f s) (hg : w.grownBy X (some b)) (hsz : zs.size = cs.size) (hi : (Tryd.prog.info? ty).map (·.size) = some cs.size) (h1 : (cs.all fun x => x.oneCell') = true) : ∃ Z, (stT ty ⟨X.heap.size, 0, none⟩ (.agg cs)).run Tryd.prog (X.alloc (.cells zs ty)) = .ok () Z ∧ SJ w Z b len cap a f ty X.heap.size rs cs zs s := by
  obtain ⟨Z, z1, z2, z3⟩ := stT_run (w := X.alloc (.cells zs ty)) cs (BA.new X ty zs) hsz hi h1
  have bV : Below X.heap.size X Z := ((Below.refl _ _).alloc (Nat.le_refl _) _).trans (z3.bel (by simp) (Nat.le_refl _))
  exact ⟨Z, z1, hr.below bV, z2, (h0.keep hg hrb).below bV, gb_trans hg (gb_of_below bV b), hb, ha, h0.lt, hg.size, hrb⟩
/-- The box, handed back. -/
theorem SJ.fin (h : SJ w X b len cap a f ty ob rs cs zs s) {d : TypeDesc} (hu : Tryd.prog.underlying ty = some d) (hd : d.isRow = true) (hsz : zs.size = cs.size) (hi : (Tryd.prog.info? ty).map (·.size) = some cs.size) (h1 : (cs.all fun x => x.oneCell') = true) : (ldT ty ⟨ob, 0, none⟩).run Tryd.prog X = .ok (.agg cs) X ∧ ∃ Z, (stT ty ⟨rs, 0, none⟩ (.agg cs)).run Tryd.prog X = .ok () Z ∧ Hid (BA Z rs ty cs ∧ RdD Z b a len cap f s ∧ Tq w Z (fun k => k = b ∨ k = rs) ∧ Tq X Z (fun k => k = rs)) := by
  obtain ⟨Z, z1, z2, z3⟩ := stT_run cs h.rz hsz hi h1
  have hb := h.bl
  refine ⟨ldT_run h.bx hu hd hi, Z, z1, z2, h.rd.tq z3 h.rb.symm (fun ad he => (h.al ad he).2), ?_, z3⟩
  have t : Tq w X (fun k => k = b ∨ k = rs) := ⟨h.gb.os, h.gb.tape, h.gb.output, h.gb.size, fun k hk hne => h.gb.block k hk (fun e => by injection e with e; exact hne (.inl e))⟩
  exact t.trans (z3.mono fun k _ e => .inr e)
end
end Go.Proofs.YtcppgpcgbggdcaaDoor

namespace Go.Proofs.YtcppgpcgbggdcaaDoor
set_option linter.unusedVariables false
set_option linter.unusedSimpArgs false
open Go.ChangeShapes Go.WideShapes Go.ChangeAt Go.RowKit
attribute [local go_sem ↓] ldP_seal stP_seal ldV_seal stV_seal appN_seal

/-- What a procedure's reading leaves: it is told only where the reader is not stuck. -/
def PostPd (w : World) (b : Nat) (a : Option Addr) (len cap : Nat) (f : Nat → Int) (r : Pc × St) (e : Ending) (w' : World) : Prop := ∃ (x : Pc) (sl : Sl), e = .returned (.agg #[.string x.nm, .slice sl.a sl.n sl.c, .int .i64 x.rs]) ∧ (r.2.st = false → x = r.1) ∧ w'.ownsRow w.heap.size 69 5 (.slice sl.a sl.n sl.c) x.ps.length (flat vEnc x.ps) ∧ RdD w' b a len cap f r.2 ∧ w.grownBy w' (some b)
def cP (nm : ByteArray) (sl : Sl) : Array Value := #[.string nm, .slice sl.a sl.n sl.c, .int .i64 0]
theorem info_par3 : (Tryd.prog.info? 69).map (fun i => (i.zero, i.size, i.bytes)) = some (some (.agg #[.string ⟨#[]⟩, .int .i64 0, .int .i64 0, .bool false, .bool false]), 5, 40) := by kernel_rfl
theorem RdD.f0 {w : World} {b len cap : Nat} {a : Option Addr} {f : Nat → Int} {s : St} (h : RdD w b a len cap f s) : ∀ i, i < len → 0 ≤ f i ∧ f i ≤ 255 := fun i hi => by
  rcases h.src.rd.2 with h0 | ⟨b', off', _, h2⟩
  · omega
  · exact (h2 i hi).2
theorem one_rg (w : World) (b len cap : Nat) (a : Option Addr) (f : Nat → Int) (s : St) (P : Int → Bool) (lo hi : Int) (h : RdD w b a len cap f s) (hP : ∀ v, 0 ≤ v → P v = rgB lo hi v) (l0 : 0 ≤ lo ∧ lo ≤ 255) (h0 : 0 ≤ hi ∧ hi ≤ 255) :
    Calls Tryd.prog 45 #[.pointer (some ⟨b, 0, none⟩), .int .u8 lo, .int .u8 hi] w (PostRd w b a len cap f (.int .i64 (octP f len P s).1) (octP f len P s).2) := by
  rw [octP_rg (Q := rgB lo hi) (fun v hv e => hP v (by rw [e]; exact (h.f0 _ hv).1))]
  exact done_any w b len cap a f s h lo hi l0 h0
def parV (fm k : Int) : Vr := ⟨⟨#[]⟩, fm, 0, decide (k = 1 ∨ k = 3), decide (k = 2 ∨ k = 3)⟩
set_option maxHeartbeats 40000000 in
set_option maxRecDepth 20000 in
theorem dproc_any (w : World) (b len cap : Nat) (a : Option Addr) (f : Nat → Int) (s : St) (h : RdD w b a len cap f s) : Calls Tryd.prog 46 #[.pointer (some ⟨b, 0, none⟩)] w (PostPd w b a len cap f (pcS f len s)) := by
  have hbl := h.bl
  have hf := h.f0
  have HA : Hid (∀ x, a = some x → x.block < w.heap.size) := hid_of fun x hx => (h.ap x hx).2
  have HB := hid_of (h.below ((Below.refl _ _).alloc (Nat.le_refl _) (.cells zeroP 63)))
  unfold pcS
  simp only
  generalize e1 : textS f len 20 s = x1
  generalize e2 : rowS f len 8 (parS f len) x1.2 = x2
  generalize e3 : octP f len resB x2.2 = x3
  have E1 := hid_of e1
  have E2 := hid_of e2
  have E3 := hid_of e3
  clear e1 e2 e3
  have T0 : Hid (Calls Tryd.prog 42 #[.pointer (some ⟨b, 0, none⟩), .int .i64 20] (w.alloc (.cells #[.string ⟨#[]⟩, .slice none 0 0, .int .i64 0] 63)) fun e X => ∃ Z, e = .returned (.string x1.1) ∧ (stT 63 ⟨X.heap.size, 0, none⟩ (.agg #[.string x1.1, .slice none 0 0, .int .i64 0])).run Tryd.prog (X.alloc (.cells #[.string ⟨#[]⟩, .slice none 0 0, .int .i64 0] 63)) = .ok () Z ∧ w.heap.size < X.heap.size ∧ Hid (SJ (w.alloc (.cells zeroP 63)) Z b len cap a f 63 X.heap.size w.heap.size (cP x1.1 ⟨none, 0, 0⟩) zeroP x1.2)) := hid_of ((dtext_any _ b len cap a f s HB.out 20 (by omega) (by omega)).mono fun e X hh => by
    obtain ⟨h1, h2, h3⟩ := hh
    rw [E1.out] at h1 h2
    obtain ⟨Z, z1, z2⟩ := SJ.start (ty := 63) (zs := zeroP) (rs := w.heap.size) (cP x1.1 ⟨none, 0, 0⟩) (BA.new w _ _) (by simp; omega) (fun ad he => by have := HA.out ad he; simp; omega) (by omega) h2 h3 rfl (by kernel_rfl) (by simp [cP, Value.oneCell'])
    have hs := h3.size
    simp at hs
    exact ⟨Z, h1, z1, by omega, z2⟩)
  have T3 : Hid (∀ X, RdD X b a len cap f x2.2 → Calls Tryd.prog 45 #[.pointer (some ⟨b, 0, none⟩), .int .u8 0, .int .u8 5] X (PostRd X b a len cap f (.int .i64 x3.1) x3.2)) := hid_of fun X hX => by
    have := one_rg X b len cap a f _ resB 0 5 hX (fun v _ => res_rg v) (by omega) (by omega)
    rw [E3.out] at this
    exact this
  clear h HB
  go_enter Tryd.func46, Tryd.ntmps46
  go_upto_block 0 with (first
    | (go_at_call 43; refine (dnum_nat _ b len cap a f x1.2 S1.out.rd 8 (by omega) (by omega)).mono ?_; rintro e w2 ⟨nn, rfl, HN⟩; have S2 := hid_of (S1.out.call HN.out.1 HN.out.2.1))
    | (go_at_call 42; refine T0.out.mono ?_; rintro e w1 ⟨Z1, rfl, z1, OB, S1⟩))
  obtain ⟨g, hg⟩ : ∃ g, g = w1.heap.size := ⟨_, rfl⟩
  rw [← hg] at S1 S2 OB ⊢
  have PL := hid_of S2.out.pj
  have LB := hid_of HN.out.2.2
  have nb : nn ≤ 8 := by have := HN.out.2.2.2; omega
  clear HN S1 T0 z1 hg
  go_cut [5] (fun s_ X => ∃ (acc : List Vr) (sl : Sl), Hid (SJ (w.alloc (.cells zeroP 63)) X b len cap a f 63 g w.heap.size (cP x1.1 sl) zeroP x2.2 ∧ (x2.2.st = false → acc = x2.1) ∧ X.ownsRow (w.heap.size + 1) 69 5 (.slice sl.a sl.n sl.c) acc.length (flat vEnc acc)))
  case first =>
    obtain ⟨X0, hX0⟩ : ∃ X0, X0 = w2 := ⟨_, rfl⟩
    rw [← hX0] at S2 PL ⊢
    clear hX0
    have hw0 : w.heap.size + 1 ≤ X0.heap.size := by have := S2.out.gb.size; simp at this; omega
    have HW0 := hid_of hw0
    clear hw0
    have RR : Hid (x2 = loopS (parS f len) nn [] (numS f len 8 x1.2).2) := hid_of (by rw [← E2.out, LB.out.1]; rfl)
    have LS : Hid (Lp (parS f len) x2 nn [] (numS f len 8 x1.2).2) := hid_of (by rw [RR.out]; exact Lp.start _ _ _ fun e => by rw [LB.out.1, num_zero e]; rfl)
    clear RR LB
    generalize (numS f len 8 x1.2).2 = sa at *
    have L0 := hid_of (And.intro S2.out.lj (own_nil X0 X0.heap.size 69 5))
    go_wp2_with fail
    go_loopg [5] nn (fun gf s_ wx => ∃ (i : Nat) (acc : List Vr) (s : St) (sl : Sl), s_ = .int .i64 (i : Int) ∧ i + gf = nn ∧ Hid (LJ X0 wx b len cap a f 63 g w.heap.size (cP x1.1 sl) zeroP s ∧ wx.ownsRow X0.heap.size 69 5 (.slice sl.a sl.n sl.c) acc.length (flat vEnc acc) ∧ Lp (parS f len) x2 gf acc s ∧ acc.length = i))
    case atStart => exact ⟨0, [], sa, ⟨none, 0, 0⟩, rfl, by omega, L0.out.1, L0.out.2, LS.out, rfl⟩
    case round =>
      clear LS L0
      obtain ⟨i, acc, s, sl, rfl, hi, HL⟩ := hrel
      have FIN : Hid (gk = 0 ∨ s.st = true → ∃ (acc : List Vr) (sl : Sl), Hid (SJ (w.alloc (.cells zeroP 63)) wr b len cap a f 63 g w.heap.size (cP x1.1 sl) zeroP x2.2 ∧ (x2.2.st = false → acc = x2.1) ∧ wr.ownsRow (w.heap.size + 1) 69 5 (.slice sl.a sl.n sl.c) acc.length (flat vEnc acc))) := fun hm => by
        obtain ⟨l1, l2, l3, l4⟩ := HL.out
        obtain ⟨f1, f2⟩ := l3.fin hm
        refine ⟨acc, sl, ?_, fun e => (f2 (by rw [← f1]; exact e)).symm, own_base l2 HW0.out⟩
        rw [f1]
        exact S2.out.join l1
      by_cases hlt : i < nn
      rotate_left
      · have d1 : decide ((i : Int) < (nn : Int)) = false := decide_eq_false (by omega)
        have FF := hid_of (FIN.out (.inl (by omega)))
        clear FIN HL
        go_wp2
        go_meet
        exact FF.out
      have d1 : decide ((i : Int) < (nn : Int)) = true := decide_eq_true (by omega)
      obtain ⟨p, st⟩ := s
      cases st
      rotate_left
      · have d2 : decide ((p : Int) < 0) = false := decide_eq_false (by omega)
        have cb := HL.out.1.rd.c2s
        have FF := hid_of (FIN.out (.inr rfl))
        clear FIN HL
        go_wp2
        go_meet
        exact FF.out
      have cb := HL.out.1.rd.c2l
      obtain ⟨g', rfl⟩ : ∃ g', gk = g' + 1 := ⟨gk - 1, by omega⟩
      clear FIN
      have ML := hid_of (MJ.new HL.out.1 HL.out.2.1 #[.string ⟨#[]⟩, .int .i64 0, .int .i64 0, .bool false, .bool false] 69)
      have NX := hid_of (And.intro (HL.out.2.2.1.next rfl) HL.out.2.2.2)
      have TR : Hid (∀ X, RdD X b a len cap f ⟨p, false⟩ → Calls Tryd.prog 45 #[.pointer (some ⟨b, 0, none⟩), .int .u8 1, .int .u8 5] X (PostRd X b a len cap f (.int .i64 (octP f len plainB ⟨p, false⟩).1) (octP f len plainB ⟨p, false⟩).2)) := fun X hX => one_rg X b len cap a f _ plainB 1 5 hX (fun _ _ => rfl) (by omega) (by omega)
      have WR : Hid (∀ X, RdD X b a len cap f (octP f len plainB ⟨p, false⟩).2 → Calls Tryd.prog 45 #[.pointer (some ⟨b, 0, none⟩), .int .u8 0, .int .u8 3] X (PostRd X b a len cap f (.int .i64 (octP f len bitB (octP f len plainB ⟨p, false⟩).2).1) (octP f len bitB (octP f len plainB ⟨p, false⟩).2).2)) := fun X hX => one_rg X b len cap a f _ bitB 0 3 hX (fun v hv => bit_rg hv) (by omega) (by omega)
      have F4 := hid_of (bit_four f len (octP f len plainB ⟨p, false⟩).2 hf)
      have PS : Hid (parS f len ⟨p, false⟩ = (parV (octP f len plainB ⟨p, false⟩).1 (octP f len bitB (octP f len plainB ⟨p, false⟩).2).1, (octP f len bitB (octP f len plainB ⟨p, false⟩).2).2)) := hid_of rfl
      rw [PS.out] at NX
      clear HL PS hf
      generalize octP f len plainB ⟨p, false⟩ = t1 at *
      generalize octP f len bitB t1.2 = t2 at *
      have AP : Hid (∀ X (y : Vr), MJ X0 X b len cap a f 63 g w.heap.size (cP x1.1 sl) zeroP t2.2 wr.heap.size (vEnc y) 69 69 5 (.slice sl.a sl.n sl.c) acc.length (flat vEnc acc) → _) := hid_of fun X y hX => by
        obtain ⟨i0, hi0, hz0, hz1, hz2⟩ := info_parts info_par3
        exact hX.li.app (j := 1) PL.out Tryd.underlying23 hi0 hz0 hz1 hz2 rfl (by omega) (by omega) (vEnc y) rfl (by intro u hu; simp [vEnc] at hu; rcases hu with rfl | rfl | rfl | rfl | rfl <;> rfl) hX.ow (by have := NX.out.2; omega) rfl
      go_upto_region 9 with (first
        | (have hz := M4; clear hz; go_at_call 45; refine (WR.out _ M4.out.li.rd).mono ?_; rintro e w5 ⟨rfl, hr, hg⟩; have M5 := hid_of (M4.out.read PL.out hr hg); clear hr hg)
        | (go_at_call 45; refine (TR.out _ ML.out.li.rd).mono ?_; rintro e w4 ⟨rfl, hr, hg⟩; have M3 := hid_of (ML.out.read PL.out hr hg); have c3 : w4.cell? ⟨wr.heap.size, 1, none⟩ = some (.int .i64 0) := M3.out.cell 1; have z3 := M3.out.fz 1; have M4 : Hid (MJ X0 (w4.setCell ⟨wr.heap.size, 1, none⟩ (.int .i64 t1.1)) b len cap a f 63 g w.heap.size (cP x1.1 sl) zeroP t1.2 wr.heap.size #[.string ⟨#[]⟩, .int .i64 t1.1, .int .i64 0, .bool false, .bool false] 69 69 5 (.slice sl.a sl.n sl.c) acc.length (flat vEnc acc)) := M3.out.set PL.out 1 _; clear hr hg))
      clear ML M3 M4 c3 z3 TR WR cb d1
      have F := F4.out
      clear F4
      rcases F with e | e | e | e
      · rw [e]
        have PV : parV t1.1 t2.1 = ⟨⟨#[]⟩, t1.1, 0, false, false⟩ := by unfold parV; rw [e]; simp
        rw [PV] at NX
        clear e PV
        have c5 : w5.cell? ⟨wr.heap.size, 3, none⟩ = some (.bool false) := M5.out.cell 3
        have z5 := M5.out.fz 3
        have M6 := hid_of (M5.out.set PL.out 3 (.bool false))
        have c6 : (w5.setCell ⟨wr.heap.size, 3, none⟩ (.bool false)).cell? ⟨wr.heap.size, 4, none⟩ = some (.bool false) := M6.out.cell 4
        have z6 := M6.out.fz 4
        have M7 : Hid (MJ X0 ((w5.setCell ⟨wr.heap.size, 3, none⟩ (.bool false)).setCell ⟨wr.heap.size, 4, none⟩ (.bool false)) b len cap a f 63 g w.heap.size (cP x1.1 sl) zeroP t2.2 wr.heap.size (vEnc ⟨⟨#[]⟩, t1.1, 0, false, false⟩) 69 69 5 (.slice sl.a sl.n sl.c) acc.length (flat vEnc acc)) := hid_of (M6.out.set PL.out 4 (.bool false))
        have ld := ldT_run M7.out.bd Tryd.underlying69 rfl (by kernel_rfl)
        obtain ⟨s', Y, hrun, cY, fY, cX, cA, HNX⟩ := AP.out _ _ M7.out
        rw [show ((w5.setCell ⟨wr.heap.size, 3, none⟩ (.bool false)).setCell ⟨wr.heap.size, 4, none⟩ (.bool false)).heap.size = w5.heap.size from (by simp)] at hrun
        simp only [vEnc] at ld hrun
        clear M5 M6 M7 AP
        go_wp2_with fail
        go_roundg g'
        case measure => omega
        case rel => exact ⟨i + 1, acc ++ [⟨⟨#[]⟩, t1.1, 0, false, false⟩], t2.2, s', by simp, by omega, HNX.out.1, by rw [List.length_append, flat_snoc]; exact HNX.out.2.1, NX.out.1, by rw [List.length_append, NX.out.2]; rfl⟩
      · rw [e]
        have PV : parV t1.1 t2.1 = ⟨⟨#[]⟩, t1.1, 0, true, false⟩ := by unfold parV; rw [e]; simp
        rw [PV] at NX
        clear e PV
        have c5 : w5.cell? ⟨wr.heap.size, 3, none⟩ = some (.bool false) := M5.out.cell 3
        have z5 := M5.out.fz 3
        have M6 := hid_of (M5.out.set PL.out 3 (.bool true))
        have c6 : (w5.setCell ⟨wr.heap.size, 3, none⟩ (.bool true)).cell? ⟨wr.heap.size, 4, none⟩ = some (.bool false) := M6.out.cell 4
        have z6 := M6.out.fz 4
        have M7 : Hid (MJ X0 ((w5.setCell ⟨wr.heap.size, 3, none⟩ (.bool true)).setCell ⟨wr.heap.size, 4, none⟩ (.bool false)) b len cap a f 63 g w.heap.size (cP x1.1 sl) zeroP t2.2 wr.heap.size (vEnc ⟨⟨#[]⟩, t1.1, 0, true, false⟩) 69 69 5 (.slice sl.a sl.n sl.c) acc.length (flat vEnc acc)) := hid_of (M6.out.set PL.out 4 (.bool false))
        have ld := ldT_run M7.out.bd Tryd.underlying69 rfl (by kernel_rfl)
        obtain ⟨s', Y, hrun, cY, fY, cX, cA, HNX⟩ := AP.out _ _ M7.out
        rw [show ((w5.setCell ⟨wr.heap.size, 3, none⟩ (.bool true)).setCell ⟨wr.heap.size, 4, none⟩ (.bool false)).heap.size = w5.heap.size from (by simp)] at hrun
        simp only [vEnc] at ld hrun
        clear M5 M6 M7 AP
        go_wp2_with fail
        go_roundg g'
        case measure => omega
        case rel => exact ⟨i + 1, acc ++ [⟨⟨#[]⟩, t1.1, 0, true, false⟩], t2.2, s', by simp, by omega, HNX.out.1, by rw [List.length_append, flat_snoc]; exact HNX.out.2.1, NX.out.1, by rw [List.length_append, NX.out.2]; rfl⟩
      · rw [e]
        have PV : parV t1.1 t2.1 = ⟨⟨#[]⟩, t1.1, 0, false, true⟩ := by unfold parV; rw [e]; simp
        rw [PV] at NX
        clear e PV
        have c5 : w5.cell? ⟨wr.heap.size, 3, none⟩ = some (.bool false) := M5.out.cell 3
        have z5 := M5.out.fz 3
        have M6 := hid_of (M5.out.set PL.out 3 (.bool false))
        have c6 : (w5.setCell ⟨wr.heap.size, 3, none⟩ (.bool false)).cell? ⟨wr.heap.size, 4, none⟩ = some (.bool false) := M6.out.cell 4
        have z6 := M6.out.fz 4
        have M7 : Hid (MJ X0 ((w5.setCell ⟨wr.heap.size, 3, none⟩ (.bool false)).setCell ⟨wr.heap.size, 4, none⟩ (.bool true)) b len cap a f 63 g w.heap.size (cP x1.1 sl) zeroP t2.2 wr.heap.size (vEnc ⟨⟨#[]⟩, t1.1, 0, false, true⟩) 69 69 5 (.slice sl.a sl.n sl.c) acc.length (flat vEnc acc)) := hid_of (M6.out.set PL.out 4 (.bool true))
        have ld := ldT_run M7.out.bd Tryd.underlying69 rfl (by kernel_rfl)
        obtain ⟨s', Y, hrun, cY, fY, cX, cA, HNX⟩ := AP.out _ _ M7.out
        rw [show ((w5.setCell ⟨wr.heap.size, 3, none⟩ (.bool false)).setCell ⟨wr.heap.size, 4, none⟩ (.bool true)).heap.size = w5.heap.size from (by simp)] at hrun
        simp only [vEnc] at ld hrun
        clear M5 M6 M7 AP
        go_wp2_with fail
        go_roundg g'
        case measure => omega
        case rel => exact ⟨i + 1, acc ++ [⟨⟨#[]⟩, t1.1, 0, false, true⟩], t2.2, s', by simp, by omega, HNX.out.1, by rw [List.length_append, flat_snoc]; exact HNX.out.2.1, NX.out.1, by rw [List.length_append, NX.out.2]; rfl⟩
      · rw [e]
        have PV : parV t1.1 t2.1 = ⟨⟨#[]⟩, t1.1, 0, true, true⟩ := by unfold parV; rw [e]; simp
        rw [PV] at NX
        clear e PV
        have c5 : w5.cell? ⟨wr.heap.size, 3, none⟩ = some (.bool false) := M5.out.cell 3
        have z5 := M5.out.fz 3
        have M6 := hid_of (M5.out.set PL.out 3 (.bool true))
        have c6 : (w5.setCell ⟨wr.heap.size, 3, none⟩ (.bool true)).cell? ⟨wr.heap.size, 4, none⟩ = some (.bool false) := M6.out.cell 4
        have z6 := M6.out.fz 4
        have M7 : Hid (MJ X0 ((w5.setCell ⟨wr.heap.size, 3, none⟩ (.bool true)).setCell ⟨wr.heap.size, 4, none⟩ (.bool true)) b len cap a f 63 g w.heap.size (cP x1.1 sl) zeroP t2.2 wr.heap.size (vEnc ⟨⟨#[]⟩, t1.1, 0, true, true⟩) 69 69 5 (.slice sl.a sl.n sl.c) acc.length (flat vEnc acc)) := hid_of (M6.out.set PL.out 4 (.bool true))
        have ld := ldT_run M7.out.bd Tryd.underlying69 rfl (by kernel_rfl)
        obtain ⟨s', Y, hrun, cY, fY, cX, cA, HNX⟩ := AP.out _ _ M7.out
        rw [show ((w5.setCell ⟨wr.heap.size, 3, none⟩ (.bool true)).setCell ⟨wr.heap.size, 4, none⟩ (.bool true)).heap.size = w5.heap.size from (by simp)] at hrun
        simp only [vEnc] at ld hrun
        clear M5 M6 M7 AP
        go_wp2_with fail
        go_roundg g'
        case measure => omega
        case rel => exact ⟨i + 1, acc ++ [⟨⟨#[]⟩, t1.1, 0, true, true⟩], t2.2, s', by simp, by omega, HNX.out.1, by rw [List.length_append, flat_snoc]; exact HNX.out.2.1, NX.out.1, by rw [List.length_append, NX.out.2]; rfl⟩
  case rest =>
    obtain ⟨acc2, sl2, H2⟩ := hcut
    clear S2 PL LB nb
    have A2 := hid_of H2.out.2
    have S2r := hid_of H2.out.1
    clear H2
    have L3 : Hid (∀ X, RdD X b a len cap f x3.2 → wc.grownBy X (some b) → X.cell? ⟨g, 2, none⟩ = some (.int .i64 0) ∧ X.frozen? ⟨g, 2, none⟩ = false ∧ (ldT 63 ⟨g, 0, none⟩).run Tryd.prog (X.setCell ⟨g, 2, none⟩ (.int .i64 x3.1)) = .ok (.agg #[.string x1.1, .slice sl2.a sl2.n sl2.c, .int .i64 x3.1]) (X.setCell ⟨g, 2, none⟩ (.int .i64 x3.1)) ∧ ∃ Z, (stT 63 ⟨w.heap.size, 0, none⟩ (.agg #[.string x1.1, .slice sl2.a sl2.n sl2.c, .int .i64 x3.1])).run Tryd.prog (X.setCell ⟨g, 2, none⟩ (.int .i64 x3.1)) = .ok () Z ∧ Hid (BA Z w.heap.size 63 #[.string x1.1, .slice sl2.a sl2.n sl2.c, .int .i64 x3.1] ∧ RdD Z b a len cap f x3.2 ∧ w.grownBy Z (some b) ∧ Z.ownsRow w.heap.size 69 5 (.slice sl2.a sl2.n sl2.c) acc2.length (flat vEnc acc2))) := hid_of fun X hr hg => by
      have S3 := S2r.out.call hr hg
      have S4 := S3.put 2 (.int .i64 x3.1)
      obtain ⟨ld, Z, st, HZ⟩ := S4.fin Tryd.underlying63 rfl rfl (by kernel_rfl) (show (#[Value.string x1.1, .slice sl2.a sl2.n sl2.c, .int .i64 x3.1].all fun x => x.oneCell') = true by simp [Value.oneCell'])
      obtain ⟨y1, y2, y3, y4⟩ := HZ.out
      have o1 := own_gb A2.out.2 (by omega) hg
      have o2 : (X.setCell ⟨g, 2, none⟩ (.int .i64 x3.1)).ownsRow (w.heap.size + 1) 69 5 (.slice sl2.a sl2.n sl2.c) acc2.length (flat vEnc acc2) := (Tq.set (P := fun k => k = g) rfl).own o1 (fun q hq e => own_box o1 S3.bx (by decide) hq e)
      have o3 := y4.own o2 (fun q hq e => by have := own_lo o2 q hq; omega)
      refine ⟨S3.bx.cell 2, S3.bx.fz 2, ld, Z, st, y1, y2, ?_, own_base o3 (by omega)⟩
      exact ⟨y3.os, y3.tape, y3.output, by have := y3.size; simp at this; omega, fun k hk hne => (y3.blk k (by simp; omega) (fun e => by rcases e with e | e; exact hne (by rw [e]); omega)).trans (Below.heap_alloc _ _ _ hk)⟩
    have RD2 := hid_of S2r.out.rd
    clear S2r
    go_wp2_with (go_at_call 45; refine (T3.out _ RD2.out).mono ?_; rintro e w3 ⟨rfl, hr, hg⟩; obtain ⟨c2, f2, ld, Z, st, HZ⟩ := L3.out _ hr hg; clear hr hg)
    refine ret_cell1 (p := 2) rfl rfl (ldT_run HZ.out.1 Tryd.underlying63 rfl (by kernel_rfl)) rfl ?_
    refine ⟨⟨x1.1, acc2, x3.1⟩, sl2, rfl, fun e => ?_, HZ.out.2.2.2, HZ.out.2.1, HZ.out.2.2.1⟩
    have e2 : x2.2.st = false := by rw [← E3.out] at e; exact octP_st_ e
    rw [A2.out.1 e2]
end Go.Proofs.YtcppgpcgbggdcaaDoor
