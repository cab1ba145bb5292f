/-
  Layer 7, the document's side: its reader's small functions read what the program's do.
-/
import Derived.Test.YtepgifapepaheaaRobj
namespace Go.Proofs.Ytepgifapepaheaa
set_option linter.unusedVariables false
set_option linter.unusedSimpArgs false
open Go.ChangeShapes Go.WideShapes Go.ChangeAt Go.RowKit

/-- The place of the first fault; below 0: there is none. -/
def badI (s : St) : Int := if s.st then (s.p : Int) else -1
def drC (a : Option Addr) (len cap : Nat) (s : St) : Array Value := #[.slice a len cap, .int .i64 (s.p : Int), .int .i64 (badI s)]
/-- The document's reader in block b. -/
structure DRd (w : World) (b : Nat) (a : Option Addr) (len cap : Nat) (f : Nat → Int) (s : St) : Prop where
  blk : w.heap[b]? = some (.cells (drC a len cap s) 51 (0, 0))
  src : Src w a len cap f
  fit : len ≤ cap
  le : s.p ≤ len
  small : len ≤ 1048576
  ap : ∀ ad, a = some ad → ad.block ≠ b ∧ ad.block < w.heap.size
section
variable {w w' : World} {b len cap : Nat} {a : Option Addr} {f : Nat → Int} {s : St}
theorem DRd.bl (h : DRd w b a len cap f s) : b < w.heap.size := (Array.getElem?_eq_some_iff.1 h.blk).1
theorem DRd.c0 (h : DRd w b a len cap f s) : w.cell? ⟨b, 0, none⟩ = some (.slice a len cap) := by simp [World.cell?, h.blk, drC]
theorem DRd.c1 (h : DRd w b a len cap f s) : w.cell? ⟨b, 1, none⟩ = some (.int .i64 (s.p : Int)) := by simp [World.cell?, h.blk, drC]
theorem DRd.c2 (h : DRd w b a len cap f s) : w.cell? ⟨b, 2, none⟩ = some (.int .i64 (badI s)) := by simp [World.cell?, h.blk, drC]
theorem DRd.fz (h : DRd w b a len cap f s) (j : Nat) : w.frozen? ⟨b, j, none⟩ = false := by simp [World.frozen?, h.blk]
theorem DRd.same (h : DRd w b a len cap f s) (hs : w.heap.size ≤ w'.heap.size) (hb : w'.heap[b]? = w.heap[b]?) (hk : ∀ ad, a = some ad → w'.heap[ad.block]? = w.heap[ad.block]?) : DRd w' b a len cap f s :=
  ⟨hb.trans h.blk, h.src.keep hk, h.fit, h.le, h.small, fun ad he => ⟨(h.ap ad he).1, Nat.lt_of_lt_of_le (h.ap ad he).2 hs⟩⟩
theorem DRd.below (h : DRd w b a len cap f s) (hb : Below w.heap.size w w') : DRd w' b a len cap f s := h.same hb.size (hb.block _ h.bl) fun ad he => hb.block _ (h.ap ad he).2
theorem DRd.grow {o : Option Nat} (h : DRd w b a len cap f s) (hg : w.grownBy w' o) (hb : o ≠ some b) (ha : ∀ ad, a = some ad → o ≠ some ad.block) : DRd w' b a len cap f s := h.same hg.size (hg.block _ h.bl fun e => hb e.symm) fun ad he => hg.block _ (h.ap ad he).2 fun e => ha ad he e.symm
theorem DRd.tq {P : Nat → Prop} (h : DRd w b a len cap f s) (t : Tq w w' P) (hb : ¬ P b) (ha : ∀ ad, a = some ad → ¬ P ad.block) : DRd w' b a len cap f s := h.same t.size (t.blk _ h.bl hb) fun ad he => t.blk _ (h.ap ad he).2 (ha ad he)
end
theorem DRd.setP {w : World} {b len cap : Nat} {a : Option Addr} {f : Nat → Int} {p : Nat} (h : DRd w b a len cap f ⟨p, false⟩) (n : Nat) (hn : n ≤ len) : DRd (w.setCell ⟨b, 1, none⟩ (.int .i64 (n : Int))) b a len cap f ⟨n, false⟩ :=
  ⟨Go.Joins.block_setCell h.blk _, h.src.keep fun ad he => Below.heap_setCell _ _ _ _ (h.ap ad he).1, h.fit, hn, h.small, fun ad he => ⟨(h.ap ad he).1, by simpa using (h.ap ad he).2⟩⟩
theorem DRd.setB {w : World} {b len cap : Nat} {a : Option Addr} {f : Nat → Int} {p : Nat} (h : DRd w b a len cap f ⟨p, false⟩) : DRd (w.setCell ⟨b, 2, none⟩ (.int .i64 (p : Int))) b a len cap f ⟨p, true⟩ :=
  ⟨Go.Joins.block_setCell h.blk _, h.src.keep fun ad he => Below.heap_setCell _ _ _ _ (h.ap ad he).1, h.fit, h.le, h.small, fun ad he => ⟨(h.ap ad he).1, by simpa using (h.ap ad he).2⟩⟩
def PostV (w : World) (b : Nat) (a : Option Addr) (len cap : Nat) (f : Nat → Int) (v : Value) (s : St) (e : Ending) (w' : World) : Prop := e = .returned v ∧ DRd w' b a len cap f s ∧ w.grownBy w' (some b)
theorem PostV.up {w w0 : World} {b len cap : Nat} {a : Option Addr} {f : Nat → Int} {s : St} {w' : World} (hb : Below w.heap.size w w0) (hr : DRd w' b a len cap f s) (hg : w0.grownBy w' (some b)) (v : Value) : PostV w b a len cap f v s (.returned v) w' := ⟨rfl, hr, gb_trans (gb_of_below hb b) hg⟩
theorem gb_self (w : World) (b : Nat) : w.grownBy w (some b) := ⟨rfl, rfl, rfl, Nat.le_refl _, fun _ _ _ => rfl⟩
theorem wrong_any (w : World) (b len cap : Nat) (a : Option Addr) (f : Nat → Int) (s : St) (h : DRd w b a len cap f s) : Calls Try.prog 19 #[.pointer (some ⟨b, 0, none⟩)] w (PostV w b a len cap f (.tuple #[]) ⟨s.p, true⟩) := by
  have c1 := h.c1
  have c2 := h.c2
  have z2 := h.fz 2
  have bl := h.bl
  have H := hid_of h
  clear h
  obtain ⟨p, st⟩ := s
  cases st
  · have hb : badI ⟨p, false⟩ = -1 := rfl
    rw [hb] at c2
    simp only at c1
    have R := hid_of H.out.setB
    clear hb
    go_enter Try.func19, Try.ntmps19
    go_wp2
    go_end0
    exact ⟨rfl, R.out, gb_set (gb_self _ _)⟩
  · have hb : badI ⟨p, true⟩ = (p : Int) := rfl
    rw [hb] at c2
    have d1 : decide ((p : Int) < 0) = false := decide_eq_false (by omega)
    clear hb
    go_enter Try.func19, Try.ntmps19
    go_wp2
    go_end0
    exact ⟨rfl, H.out, gb_self _ _⟩
theorem numS_stuck (f : Nat → Int) (len : Nat) (most : Int) (p : Nat) : numS f len most ⟨p, true⟩ = (0, ⟨p, true⟩) := by
  unfold numS
  simp only
  cases uintR f len (p : Int) <;> rfl
theorem textS_stuck (f : Nat → Int) (len : Nat) (most : Int) (p : Nat) : textS f len most ⟨p, true⟩ = (⟨#[]⟩, ⟨p, true⟩) := by
  unfold textS
  simp only
  cases textR f len (p : Int) most <;> rfl
theorem wordS_stuck (f : Nat → Int) (len p : Nat) : wordS f len ⟨p, true⟩ = (0, ⟨p, true⟩) := rfl
theorem octS_stuck (f : Nat → Int) (len : Nat) (most : Int) (p : Nat) : octS f len most ⟨p, true⟩ = (0, ⟨p, true⟩) := rfl
set_option maxHeartbeats 2000000 in
theorem rnumber_of (w : World) (b len cap : Nat) (a : Option Addr) (f : Nat → Int) (s : St) (h : DRd w b a len cap f s) (most : Int) (m0 : 0 ≤ most) (m1 : most ≤ 4294967295) :
    Calls Try.prog 17 #[.pointer (some ⟨b, 0, none⟩), .int .i64 most] w (PostV w b a len cap f (.int .i64 (numS f len most s).1) (numS f len most s).2) := by
  have c0 := h.c0
  have c1 := h.c1
  have c2 := h.c2
  have z1 := h.fz 1
  have bl := h.bl
  have UI : Hid (∀ k, Calls Try.prog 50 #[.slice a len cap, .int .i64 (s.p : Int)] (w.drewN k) _) := fun k => number_any a len cap f s.p (w.drewN k) (h.src.below (bdn (Below.refl _ _) k)) h.fit
  have WR : Hid (∀ X, Below w.heap.size w X → Calls Try.prog 19 #[.pointer (some ⟨b, 0, none⟩)] X (PostV X b a len cap f (.tuple #[]) ⟨s.p, true⟩)) := fun X hX => wrong_any X b len cap a f s (h.below hX)
  have hbd : ∀ n i, uintR f len s.p = some (n, i) → 0 ≤ n ∧ n ≤ 4294967295 ∧ s.p + i ≤ len := fun n i e => by
    have := uintR_bd e; omega
  have H := hid_of h
  clear h
  obtain ⟨p, st⟩ := s
  simp only at c1 UI WR hbd ⊢
  cases st
  rotate_left
  · have hb : badI ⟨p, true⟩ = (p : Int) := rfl
    rw [hb] at c2
    have d1 : decide ((0 : Int) ≤ (p : Int)) = true := decide_eq_true (by omega)
    rw [numS_stuck]
    clear UI WR hbd hb
    go_enter Try.func17, Try.ntmps17
    go_wp2
    go_ret
    exact ⟨rfl, H.out, gb_self _ _⟩
  unfold numS
  simp only
  have hb : badI ⟨p, false⟩ = -1 := rfl
  rw [hb] at c2
  clear hb
  generalize uintR f len p = R at *
  cases R with
  | none =>
    clear hbd
    go_enter Try.func17, Try.ntmps17
    go_wp2
    go_quiet ((go_at_call 50; exact Calls.quiet_of_same (UI.out _)))
    go_wp2_with (go_at_call 19; refine (WR.out _ (bdn (Below.refl _ _) _)).mono ?_; rintro e w1 ⟨rfl, hr, hg⟩)
    go_ret
    exact PostV.up (bdn (Below.refl _ _) _) hr hg _
  | some r =>
    obtain ⟨n, i⟩ := r
    obtain ⟨n0, n1, hi⟩ := hbd n i rfl
    clear hbd
    have hN : uN (some (n, i)) = n := rfl
    have hP : uP (p : Int) (some (n, i)) = ((p + i : Nat) : Int) := by simp [uP]
    have hB : uB (some (n, i)) = true := rfl
    rw [hN, hP, hB] at UI
    clear hN hP hB
    have w1 : n % 18446744073709551616 = n := by omega
    have w2 : most % 18446744073709551616 = most := by omega
    by_cases hle : n ≤ most
    · have d1 : decide (n ≤ most) = true := decide_eq_true hle
      have d2 : decide (most < n) = false := decide_eq_false (by omega)
      simp only [d1, Bool.not_false, Bool.and_self, if_true]
      have R := hid_of (fun k => (H.out.below (bdn (Below.refl _ _) k)).setP (p + i) hi)
      go_enter Try.func17, Try.ntmps17
      go_wp2
      go_quiet ((go_at_call 50; exact Calls.quiet_of_same (UI.out _)))
      go_wp2
      go_ret
      exact ⟨rfl, R.out _, gb_set (gb_of_below (bdn (Below.refl _ _) _) _)⟩
    · have d1 : decide (n ≤ most) = false := decide_eq_false hle
      have d2 : decide (most < n) = true := decide_eq_true (by omega)
      simp only [d1, Bool.and_false, Bool.false_eq_true, if_false]
      go_enter Try.func17, Try.ntmps17
      go_wp2
      go_quiet ((go_at_call 50; exact Calls.quiet_of_same (UI.out _)))
      go_wp2_with (go_at_call 19; refine (WR.out _ (bdn (Below.refl _ _) _)).mono ?_; rintro e w1 ⟨rfl, hr, hg⟩)
      go_ret
      exact PostV.up (bdn (Below.refl _ _) _) hr hg _
set_option maxHeartbeats 2000000 in
theorem rtext_of (w : World) (b len cap : Nat) (a : Option Addr) (f : Nat → Int) (s : St) (h : DRd w b a len cap f s) (most : Int) (m0 : -9223372036854775808 ≤ most) (m1 : most ≤ 9223372036854775807) :
    Calls Try.prog 48 #[.pointer (some ⟨b, 0, none⟩), .int .i64 most] w (PostV w b a len cap f (.string (textS f len most s).1) (textS f len most s).2) := by
  have c0 := h.c0
  have c1 := h.c1
  have c2 := h.c2
  have z1 := h.fz 1
  have bl := h.bl
  have UI : Hid (∀ k, Calls Try.prog 72 #[.slice a len cap, .int .i64 (s.p : Int), .int .i64 most] (w.drewN k) _) := fun k => rtext_any a len cap f s.p most (w.drewN k) (h.src.below (bdn (Below.refl _ _) k)) h.fit m0 m1
  have WR : Hid (∀ X, Below w.heap.size w X → Calls Try.prog 19 #[.pointer (some ⟨b, 0, none⟩)] X (PostV X b a len cap f (.tuple #[]) ⟨s.p, true⟩)) := fun X hX => wrong_any X b len cap a f s (h.below hX)
  have hbd : ∀ q m, textR f len s.p most = some (q, m) → q + m ≤ len := fun q m e => by
    unfold textR at e
    cases hu : uintR f len s.p with
    | none => rw [hu] at e; cases e
    | some r =>
      obtain ⟨n, i⟩ := r
      have hb := uintR_bd hu
      rw [hu] at e
      simp only at e
      split at e
      · injection e with e; injection e with e1 e2; subst e1 e2; omega
      · cases e
  have H := hid_of h
  clear h
  obtain ⟨p, st⟩ := s
  simp only at c1 UI WR hbd ⊢
  cases st
  rotate_left
  · have hb : badI ⟨p, true⟩ = (p : Int) := rfl
    rw [hb] at c2
    have d1 : decide ((0 : Int) ≤ (p : Int)) = true := decide_eq_true (by omega)
    rw [textS_stuck]
    clear UI WR hbd hb
    go_enter Try.func48, Try.ntmps48
    go_wp2
    go_ret
    exact ⟨rfl, H.out, gb_self _ _⟩
  unfold textS
  simp only
  have hb : badI ⟨p, false⟩ = -1 := rfl
  rw [hb] at c2
  clear hb
  generalize textR f len p most = R at *
  cases R with
  | none =>
    clear hbd
    have hB : tB (none : Option (Nat × Nat)) = false := rfl
    rw [hB] at UI
    clear hB
    go_enter Try.func48, Try.ntmps48
    go_wp2
    go_quiet ((go_at_call 72; exact Calls.quiet_of_same (UI.out _)))
    go_wp2_with (go_at_call 19; refine (WR.out _ (bdn (Below.refl _ _) _)).mono ?_; rintro e w1 ⟨rfl, hr, hg⟩)
    go_ret
    exact PostV.up (bdn (Below.refl _ _) _) hr hg _
  | some r =>
    obtain ⟨q, m⟩ := r
    have hi := hbd q m rfl
    clear hbd
    have hP : tP (some (q, m)) = ((q + m : Nat) : Int) := rfl
    have hB : tB (some (q, m)) = true := rfl
    rw [hP, hB] at UI
    clear hP hB
    simp only
    generalize tS f (some (q, m)) = tx at *
    simp only [Bool.not_false, if_true]
    have R := hid_of (fun k => (H.out.below (bdn (Below.refl _ _) k)).setP (q + m) hi)
    go_enter Try.func48, Try.ntmps48
    go_wp2
    go_quiet ((go_at_call 72; exact Calls.quiet_of_same (UI.out _)))
    go_wp2
    go_ret
    exact ⟨rfl, R.out _, gb_set (gb_of_below (bdn (Below.refl _ _) _) _)⟩
theorem fits_le {len p : Nat} (h : fits len (p : Int) = true) : p + 4 ≤ len := by unfold fits at h; have := of_decide_eq_true h; omega
set_option maxHeartbeats 2000000 in
theorem rword_of (w : World) (b len cap : Nat) (a : Option Addr) (f : Nat → Int) (s : St) (h : DRd w b a len cap f s) :
    Calls Try.prog 49 #[.pointer (some ⟨b, 0, none⟩)] w (PostV w b a len cap f (.int .u32 (wordS f len s).1) (wordS f len s).2) := by
  have c0 := h.c0
  have c1 := h.c1
  have c2 := h.c2
  have z1 := h.fz 1
  have bl := h.bl
  have hle := h.le
  have hsm := h.small
  have UI : Hid (∀ k, Calls Try.prog 14 #[.slice a len cap, .int .i64 (s.p : Int)] (w.drewN k) _) := fun k => rget_any a len cap f s.p (w.drewN k) (h.src.below (bdn (Below.refl _ _) k)).rd (by omega)
  have WR : Hid (∀ X, Below w.heap.size w X → Calls Try.prog 19 #[.pointer (some ⟨b, 0, none⟩)] X (PostV X b a len cap f (.tuple #[]) ⟨s.p, true⟩)) := fun X hX => wrong_any X b len cap a f s (h.below hX)
  have hft := fun e => fits_le (len := len) (p := s.p) e
  have H := hid_of h
  unfold wordS
  clear h
  generalize gotW len f s.p = G at *
  cases hf : fits len s.p
  · rw [hf] at UI
    simp only [Bool.and_false, Bool.false_eq_true, if_false]
    clear hft
    go_enter Try.func49, Try.ntmps49
    go_wp2
    go_quiet ((go_at_call 14; exact Calls.quiet_of_same (UI.out _)))
    go_wp2_with (go_at_call 19; refine (WR.out _ (bdn (Below.refl _ _) _)).mono ?_; rintro e w1 ⟨rfl, hr, hg⟩)
    go_ret
    exact PostV.up (bdn (Below.refl _ _) _) hr hg _
  · have hi := hft hf
    rw [hf] at UI
    clear hft
    obtain ⟨p, st⟩ := s
    simp only at c1 UI WR hi hle ⊢
    have e1 : IntKind.i64.wrap ((p : Int) + 4) = p + 4 := by rw [IntWalk.i64_left, IntWalk.wrap64_in]; omega
    cases st
    · have hb : badI ⟨p, false⟩ = -1 := rfl
      rw [hb] at c2
      clear hb
      simp only [Bool.not_false, Bool.and_self, if_true]
      have R := hid_of (fun k => (H.out.below (bdn (Below.refl _ _) k)).setP (p + 4) hi)
      go_enter Try.func49, Try.ntmps49
      go_wp2
      go_quiet ((go_at_call 14; exact Calls.quiet_of_same (UI.out _)))
      go_wp2
      go_ret
      exact ⟨rfl, R.out _, gb_set (gb_of_below (bdn (Below.refl _ _) _) _)⟩
    · have hb : badI ⟨p, true⟩ = (p : Int) := rfl
      rw [hb] at c2
      have d1 : decide ((0 : Int) ≤ (p : Int)) = true := decide_eq_true (by omega)
      clear hb
      simp only [Bool.not_true, Bool.false_and, Bool.false_eq_true, if_false]
      go_enter Try.func49, Try.ntmps49
      go_wp2
      go_quiet ((go_at_call 14; exact Calls.quiet_of_same (UI.out _)))
      go_wp2_with (go_at_call 19; refine (WR.out _ (bdn (Below.refl _ _) _)).mono ?_; rintro e w1 ⟨rfl, hr, hg⟩)
      go_ret
      exact PostV.up (bdn (Below.refl _ _) _) hr hg _
set_option maxHeartbeats 4000000 in
theorem rone_of (w : World) (b len cap : Nat) (a : Option Addr) (f : Nat → Int) (s : St) (h : DRd w b a len cap f s) (most : Int) (m0 : 0 ≤ most) (m1 : most ≤ 255) :
    Calls Try.prog 18 #[.pointer (some ⟨b, 0, none⟩), .int .u8 most] w (PostV w b a len cap f (.int .u8 (octS f len most s).1) (octS f len most s).2) := by
  have c0 := h.c0
  have c1 := h.c1
  have c2 := h.c2
  have z1 := h.fz 1
  have bl := h.bl
  have hle := h.le
  have hsm := h.small
  have WR : Hid (∀ X, Below w.heap.size w X → Calls Try.prog 19 #[.pointer (some ⟨b, 0, none⟩)] X (PostV X b a len cap f (.tuple #[]) ⟨s.p, true⟩)) := fun X hX => wrong_any X b len cap a f s (h.below hX)
  have H := hid_of h
  unfold octS
  obtain ⟨p, st⟩ := s
  simp only at c1 WR hle ⊢
  cases st
  rotate_left
  · have hb : badI ⟨p, true⟩ = (p : Int) := rfl
    rw [hb] at c2
    have d1 : decide ((0 : Int) ≤ (p : Int)) = true := decide_eq_true (by omega)
    clear hb h
    simp only [Bool.not_true, Bool.false_and, Bool.false_eq_true, if_false]
    go_enter Try.func18, Try.ntmps18
    go_wp2
    go_region
    all_goals
      go_wp2_with (go_at_call 19; refine (WR.out _ (bdn (Below.refl _ _) _)).mono ?_; rintro e w1 ⟨rfl, hr, hg⟩)
      go_ret
      exact PostV.up (bdn (Below.refl _ _) _) hr hg _
  have hb : badI ⟨p, false⟩ = -1 := rfl
  rw [hb] at c2
  clear hb
  have d0 : decide ((0 : Int) ≤ -1) = false := rfl
  by_cases hlt : p < len
  rotate_left
  · have d1 : decide ((len : Int) ≤ (p : Int)) = true := decide_eq_true (by omega)
    have d2 : decide (p < len) = false := decide_eq_false hlt
    have d3 : decide (len ≤ p) = true := decide_eq_true (by omega)
    have d4 : len ≤ p := by omega
    clear h
    simp only [d2, Bool.not_false, Bool.false_and, Bool.and_false, Bool.false_eq_true, if_false]
    go_enter Try.func18, Try.ntmps18
    go_wp2
    go_region
    all_goals
      go_wp2_with (go_at_call 19; refine (WR.out _ (bdn (Below.refl _ _) _)).mono ?_; rintro e w1 ⟨rfl, hr, hg⟩)
      go_ret
      exact PostV.up (bdn (Below.refl _ _) _) hr hg _
  have hr := h.src.rd.2
  rcases hr with h0 | ⟨q, off, rfl, hc⟩
  · omega
  obtain ⟨cq, f0, f1⟩ := hc p hlt
  have hap := h.ap _ rfl
  have CQ : Hid (∀ X, w.grownBy X (some b) → X.cell? ⟨q, off + p, none⟩ = some (.int .u8 (f p))) := fun X hX => (World.cell?_of_block (a := ⟨q, off + p, none⟩) (hX.block q hap.2 (fun e => hap.1 (by injection e)))).trans cq
  have hqb : q ≠ b := hap.1
  clear h hc hap
  have d1 : decide ((len : Int) ≤ (p : Int)) = false := decide_eq_false (by omega)
  have d2 : decide (p < len) = true := decide_eq_true hlt
  have d3 : decide (len ≤ p) = false := decide_eq_false (by omega)
  have d4 : ¬ len ≤ p := by omega
  have i0 : (0 : Int) ≤ (p : Int) := by omega
  have i1 : (p : Int) < (len : Int) := by omega
  by_cases hm : f p ≤ most
  rotate_left
  · have d5 : decide (f p ≤ most) = false := decide_eq_false hm
    have d6 : decide (most < f p) = true := decide_eq_true (by omega)
    simp only [d2, d5, Bool.not_false, Bool.true_and, Bool.and_false, Bool.false_eq_true, if_false]
    go_enter Try.func18, Try.ntmps18
    go_wp2
    go_region
    all_goals
      go_wp2_with (go_at_call 19; refine (WR.out _ (bdn (Below.refl _ _) _)).mono ?_; rintro e w1 ⟨rfl, hr, hg⟩)
      go_ret
      exact PostV.up (bdn (Below.refl _ _) _) hr hg _
  · have d5 : decide (f p ≤ most) = true := decide_eq_true hm
    have d6 : decide (most < f p) = false := decide_eq_false (by omega)
    simp only [d2, d5, Bool.not_false, Bool.and_self, if_true]
    have e1 : IntKind.i64.wrap ((p : Int) + 1) = p + 1 := by rw [IntWalk.i64_left, IntWalk.wrap64_in]; omega
    have e2 : IntKind.i64.wrap (((p + 1 : Nat) : Int) - 1) = (p : Int) := by rw [IntWalk.i64_left, IntWalk.wrap64_in] <;> omega
    have e3 : IntKind.i64.wrap (p : Int) = (p : Int) := by rw [IntWalk.i64_left, IntWalk.wrap64_in] <;> omega
    have R := hid_of (fun k => (H.out.below (bdn (Below.refl _ _) k)).setP (p + 1) (by omega))
    go_enter Try.func18, Try.ntmps18
    go_wp2
    go_region
    all_goals
      go_wp2
      go_region
      all_goals
        go_wp2
        go_ret
        exact ⟨rfl, (R.out _).below (bdn (Below.refl _ _) _), gb_trans (gb_set (gb_of_below (bdn (Below.refl _ _) _) _)) (gb_of_below (bdn (Below.refl _ _) _) _)⟩
end Go.Proofs.Ytepgifapepaheaa
