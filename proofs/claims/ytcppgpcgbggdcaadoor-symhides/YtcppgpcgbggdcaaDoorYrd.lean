/-
  Layer 13: the reader, how it lies; what its small functions read.
-/
import Derived.Test.YtcppgpcgbggdcaaDoorNt
import Derived.BigQuiet
import Derived.Deep.QuietTactic
import Derived.Deep.RegionHeld3
import Derived.Deep.LoopGhost
import Derived.Lib.SmallJoins
import Derived.Handy
namespace Go.Proofs.YtcppgpcgbggdcaaDoor
set_option linter.unusedVariables false
set_option linter.unusedSimpArgs false
open Go.ChangeShapes Go.WideShapes Go.ChangeAt Go.RowKit

/-- Where a reader is, and whether it is stuck. -/
structure St where
  p : Nat
  st : Bool
def rdC (a : Option Addr) (len cap : Nat) (s : St) : Array Value := #[.slice a len cap, .int .i64 (s.p : Int), .bool s.st]
/-- A reader in block b, of bytes that lie elsewhere. -/
structure Rdr (w : World) (b : Nat) (a : Option Addr) (len cap : Nat) (f : Nat → Int) (s : St) : Prop where
  blk : w.heap[b]? = some (.cells (rdC a len cap s) 85 (0, 0))
  src : Src w a len cap f
  fit : len ≤ cap
  le : s.p ≤ len
  small : len ≤ 1048576
  ap : ∀ ad, a = some ad → ad.block ≠ b ∧ ad.block < w.heap.size
section
variable {w w' : World} {b len cap : Nat} {a : Option Addr} {f : Nat → Int} {s : St}
theorem Rdr.bl (h : Rdr w b a len cap f s) : b < w.heap.size := (Array.getElem?_eq_some_iff.1 h.blk).1
theorem Rdr.c0 (h : Rdr w b a len cap f s) : w.cell? ⟨b, 0, none⟩ = some (.slice a len cap) := by simp [World.cell?, h.blk, rdC]
theorem Rdr.c1 (h : Rdr w b a len cap f s) : w.cell? ⟨b, 1, none⟩ = some (.int .i64 (s.p : Int)) := by simp [World.cell?, h.blk, rdC]
theorem Rdr.c2 (h : Rdr w b a len cap f s) : w.cell? ⟨b, 2, none⟩ = some (.bool s.st) := by simp [World.cell?, h.blk, rdC]
theorem Rdr.fz (h : Rdr w b a len cap f s) (j : Nat) : w.frozen? ⟨b, j, none⟩ = false := by simp [World.frozen?, h.blk]
theorem rdb_keep (h : RdB w a len f) (hk : ∀ ad, a = some ad → w'.heap[ad.block]? = w.heap[ad.block]?) : RdB w' a len f := by
  refine ⟨h.1, h.2.imp id ?_⟩
  rintro ⟨q, off, rfl, hc⟩
  exact ⟨q, off, rfl, fun i hi => ⟨(World.cell?_of_block (a := ⟨q, off + i, none⟩) (hk ⟨q, off, none⟩ rfl)).trans (hc i hi).1, (hc i hi).2⟩⟩
theorem Src.keep (h : Src w a len cap f) (hk : ∀ ad, a = some ad → w'.heap[ad.block]? = w.heap[ad.block]?) : Src w' a len cap f := ⟨rdb_keep h.rd hk, h.nil, h.fit⟩
/-- The reader is where it was where its own block and the bytes' are as they were. -/
theorem Rdr.same (h : Rdr w b a len cap f s) (hs : w.heap.size ≤ w'.heap.size) (hb : w'.heap[b]? = w.heap[b]?) (hk : ∀ ad, a = some ad → w'.heap[ad.block]? = w.heap[ad.block]?) : Rdr w' b a len cap f s :=
  ⟨hb.trans h.blk, h.src.keep hk, h.fit, h.le, h.small, fun ad he => ⟨(h.ap ad he).1, Nat.lt_of_lt_of_le (h.ap ad he).2 hs⟩⟩
theorem Rdr.below (h : Rdr w b a len cap f s) (hb : Below w.heap.size w w') : Rdr w' b a len cap f s := h.same hb.size (hb.block _ h.bl) fun ad he => hb.block _ (h.ap ad he).2
/-- .. and it is as another step left it, where that step turned its block alone. -/
theorem Rdr.other {w0 : World} {s' : St} (h : Rdr w b a len cap f s') (hs : w.heap.size ≤ w'.heap.size) (hb : w'.heap[b]? = some (.cells (rdC a len cap s) 85 (0, 0))) (hl : s.p ≤ len) (hg : w.grownBy w' (some b)) : Rdr w' b a len cap f s :=
  ⟨hb, h.src.keep fun ad he => hg.block _ (h.ap ad he).2 fun e => (h.ap ad he).1 (by injection e), h.fit, hl, h.small, fun ad he => ⟨(h.ap ad he).1, Nat.lt_of_lt_of_le (h.ap ad he).2 hs⟩⟩
end
theorem gb_of_below {w w' : World} (hb : Below w.heap.size w w') (b : Nat) : w.grownBy w' (some b) := ⟨hb.os, hb.tape, hb.output, hb.size, fun k hk _ => hb.block k hk⟩
theorem gb_trans {w w' w'' : World} {b : Nat} (h : w.grownBy w' (some b)) (h2 : w'.grownBy w'' (some b)) : w.grownBy w'' (some b) :=
  ⟨h2.os.trans h.os, h2.tape.trans h.tape, h2.output.trans h.output, Nat.le_trans h.size h2.size, fun k hk hne => (h2.block k (Nat.lt_of_lt_of_le hk h.size) hne).trans (h.block k hk hne)⟩
theorem gb_set {w w' : World} {b j : Nat} {v : Value} (h : w.grownBy w' (some b)) : w.grownBy (w'.setCell ⟨b, j, none⟩ v) (some b) :=
  ⟨h.os, h.tape, h.output, by simpa using h.size, fun k hk hne => (Below.heap_setCell _ _ _ _ (fun e => hne (by rw [e]))).trans (h.block k hk hne)⟩
theorem Rdr.setP {w : World} {b len cap : Nat} {a : Option Addr} {f : Nat → Int} {s : St} (h : Rdr w b a len cap f s) (n : Nat) (hn : n ≤ len) : Rdr (w.setCell ⟨b, 1, none⟩ (.int .i64 (n : Int))) b a len cap f ⟨n, s.st⟩ :=
  ⟨Go.Joins.block_setCell h.blk _, h.src.keep fun ad he => Below.heap_setCell _ _ _ _ (h.ap ad he).1, h.fit, hn, h.small, fun ad he => ⟨(h.ap ad he).1, by simpa using (h.ap ad he).2⟩⟩
theorem Rdr.setS {w : World} {b len cap : Nat} {a : Option Addr} {f : Nat → Int} {s : St} (h : Rdr w b a len cap f s) (t : Bool) : Rdr (w.setCell ⟨b, 2, none⟩ (.bool t)) b a len cap f ⟨s.p, t⟩ :=
  ⟨Go.Joins.block_setCell h.blk _, h.src.keep fun ad he => Below.heap_setCell _ _ _ _ (h.ap ad he).1, h.fit, h.le, h.small, fun ad he => ⟨(h.ap ad he).1, by simpa using (h.ap ad he).2⟩⟩
/-- What a reading function leaves: the reader, and all but its block as it was. -/
def PostR (w : World) (b : Nat) (a : Option Addr) (len cap : Nat) (f : Nat → Int) (v : Value) (s : St) (e : Ending) (w' : World) : Prop := e = .returned v ∧ Rdr w' b a len cap f s ∧ w.grownBy w' (some b)
def passS (s : St) (n : Nat) (ok : Bool) : St := if !s.st && ok then ⟨n, false⟩ else ⟨s.p, true⟩
set_option maxHeartbeats 1000000 in
theorem pass_any (w : World) (b len cap : Nat) (a : Option Addr) (f : Nat → Int) (s : St) (h : Rdr w b a len cap f s) (x : Int) (n : Nat) (ok : Bool) (hx : ok = true → x = (n : Int) ∧ n ≤ len) :
    Calls Tryd.prog 100 #[.pointer (some ⟨b, 0, none⟩), .int .i64 x, .bool ok] w (PostR w b a len cap f (.bool (!s.st && ok)) (passS s n ok)) := by
  have c1 := h.c1
  have c2 := h.c2
  have z1 := h.fz 1
  have z2 := h.fz 2
  have H : Hid (Rdr w b a len cap f s) := h
  clear h
  obtain ⟨p, st⟩ := s
  cases st
  · cases ok
    · clear hx
      simp only at c2
      go_enter Tryd.func100, Tryd.ntmps100
      go_wp2
      go_ret
      exact ⟨rfl, H.out.setS true, gb_set (gb_of_below (Below.refl _ _) _)⟩
    · obtain ⟨rfl, hn⟩ := hx rfl
      simp only at c2
      go_enter Tryd.func100, Tryd.ntmps100
      go_wp2
      go_ret
      exact ⟨rfl, H.out.setP n hn, gb_set (gb_of_below (Below.refl _ _) _)⟩
  · clear hx
    simp only at c2
    go_enter Tryd.func100, Tryd.ntmps100
    go_wp2
    go_ret
    exact ⟨rfl, H.out.setS true, gb_set (gb_of_below (Below.refl _ _) _)⟩
/-- A number of at most so much. -/
def numS (f : Nat → Int) (len : Nat) (most : Int) (s : St) : Int × St :=
  match uintR f len s.p with
  | none => (0, ⟨s.p, true⟩)
  | some (n, i) => if !s.st && decide (n ≤ most) then (n, ⟨s.p + i, false⟩) else (0, ⟨s.p, true⟩)
def textS (f : Nat → Int) (len : Nat) (most : Int) (s : St) : ByteArray × St :=
  match textR f len s.p most with
  | none => (⟨#[]⟩, ⟨s.p, true⟩)
  | some (q, m) => if !s.st then (tS f (some (q, m)), ⟨q + m, false⟩) else (⟨#[]⟩, ⟨s.p, true⟩)
def wordS (f : Nat → Int) (len : Nat) (s : St) : Int × St :=
  if !s.st && fits len s.p then (gotW len f s.p, ⟨s.p + 4, false⟩) else (0, ⟨s.p, true⟩)
def octS (f : Nat → Int) (len : Nat) (most : Int) (s : St) : Int × St :=
  if !s.st && (decide (s.p < len) && decide (f s.p ≤ most)) then (f s.p, ⟨s.p + 1, false⟩) else (0, ⟨s.p, true⟩)
theorem bdn {B : Nat} {a w : World} (h : Below B a w) (n : Nat) : Below B a (w.drewN n) := ⟨h.os, h.tape, h.output, h.size, h.block⟩
theorem PostR.up {w w0 : World} {b len cap : Nat} {a : Option Addr} {f : Nat → Int} {s : St} {w' : World} (hb : Below w.heap.size w w0) (hr : Rdr w' b a len cap f s) (hg : w0.grownBy w' (some b)) (v : Value) : PostR w b a len cap f v s (.returned v) w' := ⟨rfl, hr, gb_trans (gb_of_below hb b) hg⟩
set_option maxHeartbeats 2000000 in
theorem number_of (w : World) (b len cap : Nat) (a : Option Addr) (f : Nat → Int) (s : St) (h : Rdr w b a len cap f s) (most : Int) (m0 : 0 ≤ most) (m1 : most ≤ 4294967295) :
    Calls Tryd.prog 87 #[.pointer (some ⟨b, 0, none⟩), .int .u32 most] w (PostR w b a len cap f (.int .i64 (numS f len most s).1) (numS f len most s).2) := by
  have c0 := h.c0
  have c1 := h.c1
  have bl := h.bl
  have UI : Hid (∀ k, Calls Tryd.prog 101 #[.slice a len cap, .int .i64 (s.p : Int)] (w.drewN k) _) := fun k => uint_any a len cap f s.p (w.drewN k) (h.src.below (bdn (Below.refl _ _) k)) h.fit
  have PA : Hid (∀ X x n ok, Below w.heap.size w X → (ok = true → x = ((n : Nat) : Int) ∧ n ≤ len) → Calls Tryd.prog 100 #[.pointer (some ⟨b, 0, none⟩), .int .i64 x, .bool ok] X (PostR X b a len cap f (.bool (!s.st && ok)) (passS s n ok))) := fun X x n ok hX hx => pass_any X b len cap a f s (h.below hX) x n ok hx
  have hbd : ∀ n i, uintR f len s.p = some (n, i) → 0 ≤ n ∧ n ≤ 4294967295 ∧ s.p + i ≤ len := fun n i e => by
    have := uintR_bd e; omega
  unfold numS
  clear h
  generalize uintR f len s.p = R at *
  cases R with
  | none =>
    clear hbd
    go_enter Tryd.func87, Tryd.ntmps87
    go_wp2
    go_quiet ((go_at_call 101; exact Calls.quiet_of_same (UI.out _)))
    go_wp2_with (go_at_call 100; refine (PA.out _ _ 0 _ (bdn (Below.refl _ _) _) (by simp [uB])).mono ?_; rintro e w1 ⟨rfl, hr, hg⟩)
    go_ret
    exact PostR.up (bdn (Below.refl _ _) _) (by simpa [passS, uB] using hr) hg _
  | some r =>
    obtain ⟨n, i⟩ := r
    obtain ⟨n0, n1, hi⟩ := hbd n i rfl
    clear hbd
    have hN : uN (some (n, i)) = n := rfl
    have hP : uP (s.p : Int) (some (n, i)) = ((s.p + i : Nat) : Int) := by simp [uP]
    have hB : uB (some (n, i)) = true := rfl
    rw [hN, hP, hB] at UI
    clear hN hP hB
    by_cases hle : n ≤ most
    · have d1 : decide (n ≤ most) = true := decide_eq_true hle
      cases hst : s.st
      · rw [hst] at PA
        have hS : passS s (s.p + i) true = ⟨s.p + i, false⟩ := by simp [passS, hst]
        simp only [d1, Bool.not_false, Bool.and_self, if_true]
        go_enter Tryd.func87, Tryd.ntmps87
        go_wp2
        go_quiet ((go_at_call 101; exact Calls.quiet_of_same (UI.out _)))
        go_wp2_with (go_at_call 100; refine (PA.out _ _ (s.p + i) true (bdn (Below.refl _ _) _) (fun _ => ⟨rfl, hi⟩)).mono ?_; rintro e w1 ⟨rfl, hr, hg⟩)
        go_ret
        rw [hS] at hr
        exact PostR.up (bdn (Below.refl _ _) _) hr hg _
      · rw [hst] at PA
        have hS : passS s (s.p + i) true = ⟨s.p, true⟩ := by simp [passS, hst]
        simp only [d1, Bool.not_true, Bool.false_and, Bool.false_eq_true, if_false]
        go_enter Tryd.func87, Tryd.ntmps87
        go_wp2
        go_quiet ((go_at_call 101; exact Calls.quiet_of_same (UI.out _)))
        go_wp2_with (go_at_call 100; refine (PA.out _ _ (s.p + i) true (bdn (Below.refl _ _) _) (fun _ => ⟨rfl, hi⟩)).mono ?_; rintro e w1 ⟨rfl, hr, hg⟩)
        go_ret
        rw [hS] at hr
        exact PostR.up (bdn (Below.refl _ _) _) hr hg _
    · have d1 : decide (n ≤ most) = false := decide_eq_false hle
      have hS : passS s (s.p + i) false = ⟨s.p, true⟩ := by simp [passS]
      simp only [d1, Bool.and_false, Bool.false_eq_true, if_false]
      go_enter Tryd.func87, Tryd.ntmps87
      go_wp2
      go_quiet ((go_at_call 101; exact Calls.quiet_of_same (UI.out _)))
      go_wp2_with (go_at_call 100; refine (PA.out _ _ (s.p + i) false (bdn (Below.refl _ _) _) (by simp)).mono ?_; rintro e w1 ⟨rfl, hr, hg⟩)
      go_ret
      rw [hS] at hr
      exact PostR.up (bdn (Below.refl _ _) _) hr hg _
set_option maxHeartbeats 2000000 in
theorem text_of (w : World) (b len cap : Nat) (a : Option Addr) (f : Nat → Int) (s : St) (h : Rdr w b a len cap f s) (most : Int) (m0 : -9223372036854775808 ≤ most) (m1 : most ≤ 9223372036854775807) :
    Calls Tryd.prog 86 #[.pointer (some ⟨b, 0, none⟩), .int .i64 most] w (PostR w b a len cap f (.string (textS f len most s).1) (textS f len most s).2) := by
  have c0 := h.c0
  have c1 := h.c1
  have bl := h.bl
  have UI : Hid (∀ k, Calls Tryd.prog 99 #[.slice a len cap, .int .i64 (s.p : Int), .int .i64 most] (w.drewN k) _) := fun k => text_any a len cap f s.p most (w.drewN k) (h.src.below (bdn (Below.refl _ _) k)) h.fit m0 m1
  have PA : Hid (∀ X x n ok, Below w.heap.size w X → (ok = true → x = ((n : Nat) : Int) ∧ n ≤ len) → Calls Tryd.prog 100 #[.pointer (some ⟨b, 0, none⟩), .int .i64 x, .bool ok] X (PostR X b a len cap f (.bool (!s.st && ok)) (passS s n ok))) := fun X x n ok hX hx => pass_any X b len cap a f s (h.below hX) x n ok hx
  have hbd : ∀ q m, textR f len s.p most = some (q, m) → q + m ≤ len := fun q m e => by
    unfold textR at e
    cases hu : uintR f len s.p with
    | none => rw [hu] at e; cases e
    | some r =>
      obtain ⟨n, i⟩ := r
      have hb := uintR_bd hu
      rw [hu] at e
      simp only at e
      split at e
      · injection e with e; injection e with e1 e2; subst e1 e2; omega
      · cases e
  unfold textS
  clear h
  generalize textR f len s.p most = R at *
  cases R with
  | none =>
    clear hbd
    have hB : tB (none : Option (Nat × Nat)) = false := rfl
    rw [hB] at UI
    clear hB
    go_enter Tryd.func86, Tryd.ntmps86
    go_wp2
    go_quiet ((go_at_call 99; exact Calls.quiet_of_same (UI.out _)))
    go_wp2_with (go_at_call 100; refine (PA.out _ _ 0 _ (bdn (Below.refl _ _) _) (by simp [tB])).mono ?_; rintro e w1 ⟨rfl, hr, hg⟩)
    go_ret
    exact PostR.up (bdn (Below.refl _ _) _) (by simpa [passS, tB] using hr) hg _
  | some r =>
    obtain ⟨q, m⟩ := r
    have hi := hbd q m rfl
    clear hbd
    have hP : tP (some (q, m)) = ((q + m : Nat) : Int) := rfl
    have hB : tB (some (q, m)) = true := rfl
    rw [hP, hB] at UI
    clear hP hB
    simp only
    generalize tS f (some (q, m)) = tx at *
    cases hst : s.st
    · rw [hst] at PA
      have hS : passS s (q + m) true = ⟨q + m, false⟩ := by simp [passS, hst]
      simp only [Bool.not_false, if_true]
      go_enter Tryd.func86, Tryd.ntmps86
      go_wp2
      go_quiet ((go_at_call 99; exact Calls.quiet_of_same (UI.out _)))
      go_wp2_with (go_at_call 100; refine (PA.out _ _ (q + m) true (bdn (Below.refl _ _) _) (fun _ => ⟨rfl, hi⟩)).mono ?_; rintro e w1 ⟨rfl, hr, hg⟩)
      go_ret
      rw [hS] at hr
      exact PostR.up (bdn (Below.refl _ _) _) hr hg _
    · rw [hst] at PA
      have hS : passS s (q + m) true = ⟨s.p, true⟩ := by simp [passS, hst]
      simp only [Bool.not_true, Bool.false_eq_true, if_false]
      go_enter Tryd.func86, Tryd.ntmps86
      go_wp2
      go_quiet ((go_at_call 99; exact Calls.quiet_of_same (UI.out _)))
      go_wp2_with (go_at_call 100; refine (PA.out _ _ (q + m) true (bdn (Below.refl _ _) _) (fun _ => ⟨rfl, hi⟩)).mono ?_; rintro e w1 ⟨rfl, hr, hg⟩)
      go_ret
      rw [hS] at hr
      exact PostR.up (bdn (Below.refl _ _) _) hr hg _
/-- What is held of the reader's first two cells. -/
theorem two_call {w X Y : World} {b len cap p : Nat} {a : Option Addr} (bl : b < w.heap.size) (h : X.cell? ⟨b, 0, none⟩ = some (.slice a len cap) ∧ X.cell? ⟨b, 1, none⟩ = some (.int .i64 (p : Int)) ∧ Below w.heap.size w X) (hb : Below X.heap.size X Y) : Y.cell? ⟨b, 0, none⟩ = some (.slice a len cap) ∧ Y.cell? ⟨b, 1, none⟩ = some (.int .i64 (p : Int)) ∧ Below w.heap.size w Y :=
  ⟨(hb.cell (p := ⟨b, 0, none⟩) (Nat.lt_of_lt_of_le bl h.2.2.size)).trans h.1, (hb.cell (p := ⟨b, 1, none⟩) (Nat.lt_of_lt_of_le bl h.2.2.size)).trans h.2.1, h.2.2.trans (hb.mono h.2.2.size)⟩
set_option maxHeartbeats 2000000 in
theorem word_of (w : World) (b len cap : Nat) (a : Option Addr) (f : Nat → Int) (s : St) (h : Rdr w b a len cap f s) :
    Calls Tryd.prog 91 #[.pointer (some ⟨b, 0, none⟩)] w (PostR w b a len cap f (.int .u32 (wordS f len s).1) (wordS f len s).2) := by
  have c0 := h.c0
  have c1 := h.c1
  have bl := h.bl
  have hle := h.le
  have hsm := h.small
  have GT : Hid (∀ X, Below w.heap.size w X → Calls Tryd.prog 102 #[.slice a len cap, .int .i64 (s.p : Int)] X _) := fun X hX => get_any a len cap f s.p X (h.below hX).src.rd
  have PA : Hid (∀ X x n ok, Below w.heap.size w X → (ok = true → x = ((n : Nat) : Int) ∧ n ≤ len) → Calls Tryd.prog 100 #[.pointer (some ⟨b, 0, none⟩), .int .i64 x, .bool ok] X (PostR X b a len cap f (.bool (!s.st && ok)) (passS s n ok))) := fun X x n ok hX hx => pass_any X b len cap a f s (h.below hX) x n ok hx
  have hft : fits len s.p = true → s.p + 4 ≤ len := fun e => by unfold fits at e; have := of_decide_eq_true e; omega
  unfold wordS
  clear h
  generalize gotW len f s.p = G at *
  cases hf : fits len s.p
  · rw [hf] at GT
    have hS : passS s (s.p + 4) false = ⟨s.p, true⟩ := by simp [passS]
    simp only [Bool.and_false, Bool.false_eq_true, if_false]
    clear hft
    go_enter Tryd.func91, Tryd.ntmps91
    go_wp2
    go_region_held3 (fun X => X.cell? ⟨b, 0, none⟩ = some (.slice a len cap) ∧ X.cell? ⟨b, 1, none⟩ = some (.int .i64 (s.p : Int)) ∧ Below w.heap.size w X) (first | exact ⟨c0, c1, (Below.refl _ _).drew⟩ | assumption | exact two_call bl (by assumption) (by assumption)) (first | (go_at_call 102; refine (GT.out _ (by first | exact (Below.refl _ _).drew | exact (by assumption : _ ∧ _ ∧ Below w.heap.size w _).2.2)).mono ?_; rintro e w1 ⟨rfl, hb⟩; have hs1 := hb.size))
    all_goals
      obtain ⟨k0, k1, k2⟩ := two_call (w := w) (X := w.drew) bl ⟨c0, c1, (Below.refl _ _).drew⟩ hb
      clear c0 c1
      go_wp2_with (go_at_call 100; refine (PA.out _ _ (s.p + 4) false k2 (by simp)).mono ?_; rintro e w2 ⟨rfl, hr, hg⟩)
      go_ret
      rw [hS] at hr
      exact PostR.up k2 hr hg _
  · have hi := hft hf
    rw [hf] at GT
    clear hft
    have e1 : IntKind.i64.wrap ((s.p : Int) + 4) = s.p + 4 := by rw [IntWalk.i64_left, IntWalk.wrap64_in]; omega
    cases hst : s.st
    · rw [hst] at PA
      have hS : passS s (s.p + 4) true = ⟨s.p + 4, false⟩ := by simp [passS, hst]
      simp only [Bool.not_false, Bool.and_self, if_true]
      go_enter Tryd.func91, Tryd.ntmps91
      go_wp2
      go_region_held3 (fun X => X.cell? ⟨b, 0, none⟩ = some (.slice a len cap) ∧ X.cell? ⟨b, 1, none⟩ = some (.int .i64 (s.p : Int)) ∧ Below w.heap.size w X) (first | exact ⟨c0, c1, (Below.refl _ _).drew⟩ | assumption | exact two_call bl (by assumption) (by assumption)) (first | (go_at_call 102; refine (GT.out _ (by first | exact (Below.refl _ _).drew | exact (by assumption : _ ∧ _ ∧ Below w.heap.size w _).2.2)).mono ?_; rintro e w1 ⟨rfl, hb⟩; have hs1 := hb.size))
      all_goals
        obtain ⟨k0, k1, k2⟩ := two_call (w := w) (X := w.drew) bl ⟨c0, c1, (Below.refl _ _).drew⟩ hb
        clear c0 c1
        go_wp2_with (go_at_call 100; refine (PA.out _ _ (s.p + 4) true k2 (fun _ => ⟨by omega, hi⟩)).mono ?_; rintro e w2 ⟨rfl, hr, hg⟩)
        go_ret
        rw [hS] at hr
        exact PostR.up k2 hr hg _
    · rw [hst] at PA
      have hS : passS s (s.p + 4) true = ⟨s.p, true⟩ := by simp [passS, hst]
      simp only [Bool.not_true, Bool.false_and, Bool.false_eq_true, if_false]
      go_enter Tryd.func91, Tryd.ntmps91
      go_wp2
      go_region_held3 (fun X => X.cell? ⟨b, 0, none⟩ = some (.slice a len cap) ∧ X.cell? ⟨b, 1, none⟩ = some (.int .i64 (s.p : Int)) ∧ Below w.heap.size w X) (first | exact ⟨c0, c1, (Below.refl _ _).drew⟩ | assumption | exact two_call bl (by assumption) (by assumption)) (first | (go_at_call 102; refine (GT.out _ (by first | exact (Below.refl _ _).drew | exact (by assumption : _ ∧ _ ∧ Below w.heap.size w _).2.2)).mono ?_; rintro e w1 ⟨rfl, hb⟩; have hs1 := hb.size))
      all_goals
        obtain ⟨k0, k1, k2⟩ := two_call (w := w) (X := w.drew) bl ⟨c0, c1, (Below.refl _ _).drew⟩ hb
        clear c0 c1
        go_wp2_with (go_at_call 100; refine (PA.out _ _ (s.p + 4) true k2 (fun _ => ⟨by omega, hi⟩)).mono ?_; rintro e w2 ⟨rfl, hr, hg⟩)
        go_ret
        rw [hS] at hr
        exact PostR.up k2 hr hg _
end Go.Proofs.YtcppgpcgbggdcaaDoor
