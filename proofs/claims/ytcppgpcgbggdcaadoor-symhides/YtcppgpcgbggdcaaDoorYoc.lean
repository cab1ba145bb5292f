/-
  Layer 13: which numbers may stand for forms; a byte that the reader takes.
-/
import Derived.Test.YtcppgpcgbggdcaaDoorYrd
namespace Go.Proofs.YtcppgpcgbggdcaaDoor
set_option linter.unusedVariables false
set_option linter.unusedSimpArgs false
open Go.ChangeShapes Go.WideShapes Go.ChangeAt Go.RowKit

def plainB (x : Int) : Bool := decide (1 ≤ x) && decide (x ≤ 5)
def resB (x : Int) : Bool := decide (x = 0) || plainB x
/-- The least and the greatest number of a constant of a form. -/
def valB (x : Int) : Option (Int × Int) := if x = 1 then some (-2147483648, 2147483647) else if x = 2 then some (0, 1) else if x = 3 then some (0, 255) else if x = 5 then some (0, 4294967295) else if x = 7 then some (0, 0) else none
def conB (x : Int) : Bool := (valB x).isSome
def bitB (x : Int) : Bool := decide (x ≤ 3)
theorem isPlain_any (x : Int) (w : World) : Calls Tryd.prog 52 #[.int .i64 x] w fun e w' => e = .returned (.bool (plainB x)) ∧ w' = w := by
  unfold plainB
  by_cases h1 : 1 ≤ x
  · by_cases h2 : x ≤ 5
    · have d1 : decide (1 ≤ x) = true := decide_eq_true h1
      have d2 : decide (x ≤ 5) = true := decide_eq_true h2
      go_enter Tryd.func52, Tryd.ntmps52
      go_wp2
      go_ret
      simp [h1, h2]
    · have d1 : decide (1 ≤ x) = true := decide_eq_true h1
      have d2 : decide (x ≤ 5) = false := decide_eq_false h2
      go_enter Tryd.func52, Tryd.ntmps52
      go_wp2
      go_ret
      simp [h1, h2]
  · have d1 : decide (1 ≤ x) = false := decide_eq_false h1
    go_enter Tryd.func52, Tryd.ntmps52
    go_wp2
    go_ret
    simp [h1]
theorem isResult_any (x : Int) (w : World) : Calls Tryd.prog 55 #[.int .i64 x] w fun e w' => e = .returned (.bool (resB x)) ∧ w' = w := by
  have PL : Hid (∀ X, Calls Tryd.prog 52 #[.int .i64 x] X fun e w' => e = .returned (.bool (plainB x)) ∧ w' = X) := fun X => isPlain_any x X
  unfold resB
  generalize plainB x = pb at *
  by_cases h1 : x = 0
  · subst h1
    go_enter Tryd.func55, Tryd.ntmps55
    go_wp2_with (go_at_call 52; refine (PL.out _).mono ?_; rintro e w1 ⟨rfl, rfl⟩)
    go_ret
    simp
  · have d0 : (x == 0) = false := by simpa using h1
    go_enter Tryd.func55, Tryd.ntmps55
    go_wp2_with (go_at_call 52; refine (PL.out _).mono ?_; rintro e w1 ⟨rfl, rfl⟩)
    go_ret
    simp [h1]
def valT (r : Option (Int × Int)) : Value := match r with
  | some (a, b) => .tuple #[.int .i64 a, .int .i64 b, .bool true]
  | none => .tuple #[.int .i64 0, .int .i64 0, .bool false]
theorem values_any (x : Int) (w : World) : Calls Tryd.prog 51 #[.int .i64 x] w fun e w' => e = .returned (valT (valB x)) ∧ w' = w := by
  by_cases h1 : x = 1
  · subst h1
    go_enter Tryd.func51, Tryd.ntmps51
    go_wp2
    go_ret3
    exact ⟨rfl, rfl⟩
  by_cases h2 : x = 2
  · subst h2
    go_enter Tryd.func51, Tryd.ntmps51
    go_wp2
    go_ret3
    exact ⟨rfl, rfl⟩
  by_cases h3 : x = 3
  · subst h3
    go_enter Tryd.func51, Tryd.ntmps51
    go_wp2
    go_ret3
    exact ⟨rfl, rfl⟩
  by_cases h5 : x = 5
  · subst h5
    go_enter Tryd.func51, Tryd.ntmps51
    go_wp2
    go_ret3
    exact ⟨rfl, rfl⟩
  by_cases h7 : x = 7
  · subst h7
    go_enter Tryd.func51, Tryd.ntmps51
    go_wp2
    go_ret3
    exact ⟨rfl, rfl⟩
  · have H0 : valB x = none := by unfold valB; rw [if_neg h1, if_neg h2, if_neg h3, if_neg h5, if_neg h7]
    have H : Hid (valB x = none) := H0
    clear H0
    have d1 : (x == 1) = false := by simpa using h1
    have d2 : (x == 2) = false := by simpa using h2
    have d3 : (x == 3) = false := by simpa using h3
    have d5 : (x == 5) = false := by simpa using h5
    have d7 : (x == 7) = false := by simpa using h7
    go_enter Tryd.func51, Tryd.ntmps51
    go_wp2
    go_ret3
    rw [H.out]
    exact ⟨rfl, rfl⟩
theorem isConstForm_any (x : Int) (w : World) : Calls Tryd.prog 89 #[.int .i64 x] w fun e w' => e = .returned (.bool (conB x)) ∧ w' = w := by
  have VA : Hid (∀ X, Calls Tryd.prog 51 #[.int .i64 x] X fun e w' => e = .returned (valT (valB x)) ∧ w' = X) := fun X => values_any x X
  unfold conB
  generalize valB x = r at *
  cases r with
  | none =>
    go_enter Tryd.func89, Tryd.ntmps89
    go_wp2_with (go_at_call 51; refine (VA.out _).mono ?_; rintro e w1 ⟨rfl, rfl⟩; simp only [valT])
    go_ret
    exact ⟨rfl, rfl⟩
  | some p =>
    obtain ⟨a, b⟩ := p
    go_enter Tryd.func89, Tryd.ntmps89
    go_wp2_with (go_at_call 51; refine (VA.out _).mono ?_; rintro e w1 ⟨rfl, rfl⟩; simp only [valT])
    go_ret
    exact ⟨rfl, rfl⟩
theorem bits_fn (x : Int) (w : World) : Calls Tryd.prog 103 #[.int .i64 x] w fun e w' => e = .returned (.bool (bitB x)) ∧ w' = w := by
  unfold bitB
  go_enter Tryd.func103, Tryd.ntmps103
  go_wp2
  go_ret
  exact ⟨rfl, rfl⟩
/-- A byte that may be there. -/
def octP (f : Nat → Int) (len : Nat) (P : Int → Bool) (s : St) : Int × St :=
  if !s.st && (decide (s.p < len) && P (f s.p)) then (f s.p, ⟨s.p + 1, false⟩) else (0, ⟨s.p, true⟩)
set_option maxHeartbeats 2000000 in
theorem octet_pl (w : World) (b len cap : Nat) (a : Option Addr) (f : Nat → Int) (s : St) (h : Rdr w b a len cap f s) :
    Calls Tryd.prog 88 #[.pointer (some ⟨b, 0, none⟩), .func (.func 52) #[] #[]] w (PostR w b a len cap f (.int .i64 (octP f len plainB s).1) (octP f len plainB s).2) := by
  have c0 := h.c0
  have c1 := h.c1
  have bl := h.bl
  have hle := h.le
  have hsm := h.small
  have PA : Hid (∀ X x n ok, Below w.heap.size w X → (ok = true → x = ((n : Nat) : Int) ∧ n ≤ len) → Calls Tryd.prog 100 #[.pointer (some ⟨b, 0, none⟩), .int .i64 x, .bool ok] X (PostR X b a len cap f (.bool (!s.st && ok)) (passS s n ok))) := fun X x n ok hX hx => pass_any X b len cap a f s (h.below hX) x n ok hx
  have MY : Hid (∀ X x, Calls Tryd.prog 52 #[.int .i64 x] X fun e w' => e = .returned (.bool (plainB x)) ∧ w' = X) := fun X x => isPlain_any x X
  have e1 : IntKind.i64.wrap ((s.p : Int) + 1) = s.p + 1 := by rw [IntWalk.i64_left, IntWalk.wrap64_in]; omega
  unfold octP
  by_cases hlt : s.p < len
  · have hr := h.src.rd.2
    rcases hr with h0 | ⟨q, off, rfl, hc⟩
    · omega
    obtain ⟨cq, f0, f1⟩ := hc s.p hlt
    have hap := h.ap _ rfl
    have CQ : Hid (∀ X, w.grownBy X (some b) → X.cell? ⟨q, off + s.p, none⟩ = some (.int .u8 (f s.p)) ∧ X.heap.size = X.heap.size) := fun X hX => ⟨(World.cell?_of_block (a := ⟨q, off + s.p, none⟩) (hX.block q hap.2 (fun e => hap.1 (by injection e)))).trans cq, rfl⟩
    clear h hc hap
    have d1 : decide ((s.p : Int) < (len : Int)) = true := decide_eq_true (by omega)
    have d2 : decide (s.p < len) = true := decide_eq_true hlt
    have i0 : (0 : Int) ≤ (s.p : Int) := by omega
    have i1 : (s.p : Int) < (len : Int) := by omega
    have e2 : IntKind.i64.wrap (f s.p) = f s.p := by rw [IntWalk.i64_left, IntWalk.wrap64_in]; omega
    have MZ : Hid (∀ X, Calls Tryd.prog 52 #[.int .i64 (f s.p)] X fun e w' => e = .returned (.bool (plainB (f s.p))) ∧ w' = X) := fun X => MY.out X (f s.p)
    clear MY
    cases hm : plainB (f s.p)
    · rw [hm] at MZ
      have hS : passS s (s.p + 1) false = ⟨s.p, true⟩ := by simp [passS]
      simp only [d2, Bool.and_false, Bool.false_eq_true, if_false]
      go_enter Tryd.func88, Tryd.ntmps88
      go_wp2_with (first
        | (go_at_call 52; refine (MZ.out _).mono ?_; rintro e w1 ⟨rfl, rfl⟩)
        | (go_at_call 100; refine (PA.out _ _ (s.p + 1) false (by first | exact Below.refl _ _ | go_grown) (by simp)).mono ?_; rintro e w2 ⟨rfl, hr, hg⟩; rw [hS] at hr))
      go_ret
      exact ⟨rfl, hr, hg⟩
    · rw [hm] at MZ
      cases hst : s.st
      · rw [hst] at PA
        have hS : passS s (s.p + 1) true = ⟨s.p + 1, false⟩ := by simp [passS, hst]
        simp only [d2, Bool.not_false, Bool.and_self, if_true]
        go_enter Tryd.func88, Tryd.ntmps88
        go_wp2_with (first
          | (go_at_call 52; refine (MZ.out _).mono ?_; rintro e w1 ⟨rfl, rfl⟩)
          | (go_at_call 100; refine (PA.out _ _ (s.p + 1) true (by first | exact Below.refl _ _ | go_grown) (fun _ => ⟨by omega, by omega⟩)).mono ?_; rintro e w2 ⟨rfl, hr, hg⟩; rw [hS] at hr; have k0 := hr.c0; have kq := (CQ.out _ hg).1; have HR : Hid (Rdr w2 b (some ⟨q, off, none⟩) len cap f ⟨s.p + 1, false⟩) := hr; clear hr))
        go_ret
        exact ⟨rfl, HR.out, hg⟩
      · rw [hst] at PA
        have hS : passS s (s.p + 1) true = ⟨s.p, true⟩ := by simp [passS, hst]
        simp only [d2, Bool.not_true, Bool.false_and, Bool.false_eq_true, if_false]
        go_enter Tryd.func88, Tryd.ntmps88
        go_wp2_with (first
          | (go_at_call 52; refine (MZ.out _).mono ?_; rintro e w1 ⟨rfl, rfl⟩)
          | (go_at_call 100; refine (PA.out _ _ (s.p + 1) true (by first | exact Below.refl _ _ | go_grown) (fun _ => ⟨by omega, by omega⟩)).mono ?_; rintro e w2 ⟨rfl, hr, hg⟩; rw [hS] at hr))
        go_ret
        exact ⟨rfl, hr, hg⟩
  · clear h
    have d1 : decide ((s.p : Int) < (len : Int)) = false := decide_eq_false (by omega)
    have d2 : decide (s.p < len) = false := decide_eq_false hlt
    have hS : passS s (s.p + 1) false = ⟨s.p, true⟩ := by simp [passS]
    simp only [d2, Bool.false_and, Bool.and_false, Bool.false_eq_true, if_false]
    go_enter Tryd.func88, Tryd.ntmps88
    go_wp2_with (go_at_call 100; refine (PA.out _ _ (s.p + 1) false (by first | exact Below.refl _ _ | go_grown) (by simp)).mono ?_; rintro e w2 ⟨rfl, hr, hg⟩; rw [hS] at hr)
    go_ret
    exact ⟨rfl, hr, hg⟩
set_option maxHeartbeats 2000000 in
theorem octet_rs (w : World) (b len cap : Nat) (a : Option Addr) (f : Nat → Int) (s : St) (h : Rdr w b a len cap f s) :
    Calls Tryd.prog 88 #[.pointer (some ⟨b, 0, none⟩), .func (.func 55) #[] #[]] w (PostR w b a len cap f (.int .i64 (octP f len resB s).1) (octP f len resB s).2) := by
  have c0 := h.c0
  have c1 := h.c1
  have bl := h.bl
  have hle := h.le
  have hsm := h.small
  have PA : Hid (∀ X x n ok, Below w.heap.size w X → (ok = true → x = ((n : Nat) : Int) ∧ n ≤ len) → Calls Tryd.prog 100 #[.pointer (some ⟨b, 0, none⟩), .int .i64 x, .bool ok] X (PostR X b a len cap f (.bool (!s.st && ok)) (passS s n ok))) := fun X x n ok hX hx => pass_any X b len cap a f s (h.below hX) x n ok hx
  have MY : Hid (∀ X x, Calls Tryd.prog 55 #[.int .i64 x] X fun e w' => e = .returned (.bool (resB x)) ∧ w' = X) := fun X x => isResult_any x X
  have e1 : IntKind.i64.wrap ((s.p : Int) + 1) = s.p + 1 := by rw [IntWalk.i64_left, IntWalk.wrap64_in]; omega
  unfold octP
  by_cases hlt : s.p < len
  · have hr := h.src.rd.2
    rcases hr with h0 | ⟨q, off, rfl, hc⟩
    · omega
    obtain ⟨cq, f0, f1⟩ := hc s.p hlt
    have hap := h.ap _ rfl
    have CQ : Hid (∀ X, w.grownBy X (some b) → X.cell? ⟨q, off + s.p, none⟩ = some (.int .u8 (f s.p)) ∧ X.heap.size = X.heap.size) := fun X hX => ⟨(World.cell?_of_block (a := ⟨q, off + s.p, none⟩) (hX.block q hap.2 (fun e => hap.1 (by injection e)))).trans cq, rfl⟩
    clear h hc hap
    have d1 : decide ((s.p : Int) < (len : Int)) = true := decide_eq_true (by omega)
    have d2 : decide (s.p < len) = true := decide_eq_true hlt
    have i0 : (0 : Int) ≤ (s.p : Int) := by omega
    have i1 : (s.p : Int) < (len : Int) := by omega
    have e2 : IntKind.i64.wrap (f s.p) = f s.p := by rw [IntWalk.i64_left, IntWalk.wrap64_in]; omega
    have MZ : Hid (∀ X, Calls Tryd.prog 55 #[.int .i64 (f s.p)] X fun e w' => e = .returned (.bool (resB (f s.p))) ∧ w' = X) := fun X => MY.out X (f s.p)
    clear MY
    cases hm : resB (f s.p)
    · rw [hm] at MZ
      have hS : passS s (s.p + 1) false = ⟨s.p, true⟩ := by simp [passS]
      simp only [d2, Bool.and_false, Bool.false_eq_true, if_false]
      go_enter Tryd.func88, Tryd.ntmps88
      go_wp2_with (first
        | (go_at_call 55; refine (MZ.out _).mono ?_; rintro e w1 ⟨rfl, rfl⟩)
        | (go_at_call 100; refine (PA.out _ _ (s.p + 1) false (by first | exact Below.refl _ _ | go_grown) (by simp)).mono ?_; rintro e w2 ⟨rfl, hr, hg⟩; rw [hS] at hr))
      go_ret
      exact ⟨rfl, hr, hg⟩
    · rw [hm] at MZ
      cases hst : s.st
      · rw [hst] at PA
        have hS : passS s (s.p + 1) true = ⟨s.p + 1, false⟩ := by simp [passS, hst]
        simp only [d2, Bool.not_false, Bool.and_self, if_true]
        go_enter Tryd.func88, Tryd.ntmps88
        go_wp2_with (first
          | (go_at_call 55; refine (MZ.out _).mono ?_; rintro e w1 ⟨rfl, rfl⟩)
          | (go_at_call 100; refine (PA.out _ _ (s.p + 1) true (by first | exact Below.refl _ _ | go_grown) (fun _ => ⟨by omega, by omega⟩)).mono ?_; rintro e w2 ⟨rfl, hr, hg⟩; rw [hS] at hr; have k0 := hr.c0; have kq := (CQ.out _ hg).1; have HR : Hid (Rdr w2 b (some ⟨q, off, none⟩) len cap f ⟨s.p + 1, false⟩) := hr; clear hr))
        go_ret
        exact ⟨rfl, HR.out, hg⟩
      · rw [hst] at PA
        have hS : passS s (s.p + 1) true = ⟨s.p, true⟩ := by simp [passS, hst]
        simp only [d2, Bool.not_true, Bool.false_and, Bool.false_eq_true, if_false]
        go_enter Tryd.func88, Tryd.ntmps88
        go_wp2_with (first
          | (go_at_call 55; refine (MZ.out _).mono ?_; rintro e w1 ⟨rfl, rfl⟩)
          | (go_at_call 100; refine (PA.out _ _ (s.p + 1) true (by first | exact Below.refl _ _ | go_grown) (fun _ => ⟨by omega, by omega⟩)).mono ?_; rintro e w2 ⟨rfl, hr, hg⟩; rw [hS] at hr))
        go_ret
        exact ⟨rfl, hr, hg⟩
  · clear h
    have d1 : decide ((s.p : Int) < (len : Int)) = false := decide_eq_false (by omega)
    have d2 : decide (s.p < len) = false := decide_eq_false hlt
    have hS : passS s (s.p + 1) false = ⟨s.p, true⟩ := by simp [passS]
    simp only [d2, Bool.false_and, Bool.and_false, Bool.false_eq_true, if_false]
    go_enter Tryd.func88, Tryd.ntmps88
    go_wp2_with (go_at_call 100; refine (PA.out _ _ (s.p + 1) false (by first | exact Below.refl _ _ | go_grown) (by simp)).mono ?_; rintro e w2 ⟨rfl, hr, hg⟩; rw [hS] at hr)
    go_ret
    exact ⟨rfl, hr, hg⟩
set_option maxHeartbeats 2000000 in
theorem octet_cn (w : World) (b len cap : Nat) (a : Option Addr) (f : Nat → Int) (s : St) (h : Rdr w b a len cap f s) :
    Calls Tryd.prog 88 #[.pointer (some ⟨b, 0, none⟩), .func (.func 89) #[] #[]] w (PostR w b a len cap f (.int .i64 (octP f len conB s).1) (octP f len conB s).2) := by
  have c0 := h.c0
  have c1 := h.c1
  have bl := h.bl
  have hle := h.le
  have hsm := h.small
  have PA : Hid (∀ X x n ok, Below w.heap.size w X → (ok = true → x = ((n : Nat) : Int) ∧ n ≤ len) → Calls Tryd.prog 100 #[.pointer (some ⟨b, 0, none⟩), .int .i64 x, .bool ok] X (PostR X b a len cap f (.bool (!s.st && ok)) (passS s n ok))) := fun X x n ok hX hx => pass_any X b len cap a f s (h.below hX) x n ok hx
  have MY : Hid (∀ X x, Calls Tryd.prog 89 #[.int .i64 x] X fun e w' => e = .returned (.bool (conB x)) ∧ w' = X) := fun X x => isConstForm_any x X
  have e1 : IntKind.i64.wrap ((s.p : Int) + 1) = s.p + 1 := by rw [IntWalk.i64_left, IntWalk.wrap64_in]; omega
  unfold octP
  by_cases hlt : s.p < len
  · have hr := h.src.rd.2
    rcases hr with h0 | ⟨q, off, rfl, hc⟩
    · omega
    obtain ⟨cq, f0, f1⟩ := hc s.p hlt
    have hap := h.ap _ rfl
    have CQ : Hid (∀ X, w.grownBy X (some b) → X.cell? ⟨q, off + s.p, none⟩ = some (.int .u8 (f s.p)) ∧ X.heap.size = X.heap.size) := fun X hX => ⟨(World.cell?_of_block (a := ⟨q, off + s.p, none⟩) (hX.block q hap.2 (fun e => hap.1 (by injection e)))).trans cq, rfl⟩
    clear h hc hap
    have d1 : decide ((s.p : Int) < (len : Int)) = true := decide_eq_true (by omega)
    have d2 : decide (s.p < len) = true := decide_eq_true hlt
    have i0 : (0 : Int) ≤ (s.p : Int) := by omega
    have i1 : (s.p : Int) < (len : Int) := by omega
    have e2 : IntKind.i64.wrap (f s.p) = f s.p := by rw [IntWalk.i64_left, IntWalk.wrap64_in]; omega
    have MZ : Hid (∀ X, Calls Tryd.prog 89 #[.int .i64 (f s.p)] X fun e w' => e = .returned (.bool (conB (f s.p))) ∧ w' = X) := fun X => MY.out X (f s.p)
    clear MY
    cases hm : conB (f s.p)
    · rw [hm] at MZ
      have hS : passS s (s.p + 1) false = ⟨s.p, true⟩ := by simp [passS]
      simp only [d2, Bool.and_false, Bool.false_eq_true, if_false]
      go_enter Tryd.func88, Tryd.ntmps88
      go_wp2_with (first
        | (go_at_call 89; refine (MZ.out _).mono ?_; rintro e w1 ⟨rfl, rfl⟩)
        | (go_at_call 100; refine (PA.out _ _ (s.p + 1) false (by first | exact Below.refl _ _ | go_grown) (by simp)).mono ?_; rintro e w2 ⟨rfl, hr, hg⟩; rw [hS] at hr))
      go_ret
      exact ⟨rfl, hr, hg⟩
    · rw [hm] at MZ
      cases hst : s.st
      · rw [hst] at PA
        have hS : passS s (s.p + 1) true = ⟨s.p + 1, false⟩ := by simp [passS, hst]
        simp only [d2, Bool.not_false, Bool.and_self, if_true]
        go_enter Tryd.func88, Tryd.ntmps88
        go_wp2_with (first
          | (go_at_call 89; refine (MZ.out _).mono ?_; rintro e w1 ⟨rfl, rfl⟩)
          | (go_at_call 100; refine (PA.out _ _ (s.p + 1) true (by first | exact Below.refl _ _ | go_grown) (fun _ => ⟨by omega, by omega⟩)).mono ?_; rintro e w2 ⟨rfl, hr, hg⟩; rw [hS] at hr; have k0 := hr.c0; have kq := (CQ.out _ hg).1; have HR : Hid (Rdr w2 b (some ⟨q, off, none⟩) len cap f ⟨s.p + 1, false⟩) := hr; clear hr))
        go_ret
        exact ⟨rfl, HR.out, hg⟩
      · rw [hst] at PA
        have hS : passS s (s.p + 1) true = ⟨s.p, true⟩ := by simp [passS, hst]
        simp only [d2, Bool.not_true, Bool.false_and, Bool.false_eq_true, if_false]
        go_enter Tryd.func88, Tryd.ntmps88
        go_wp2_with (first
          | (go_at_call 89; refine (MZ.out _).mono ?_; rintro e w1 ⟨rfl, rfl⟩)
          | (go_at_call 100; refine (PA.out _ _ (s.p + 1) true (by first | exact Below.refl _ _ | go_grown) (fun _ => ⟨by omega, by omega⟩)).mono ?_; rintro e w2 ⟨rfl, hr, hg⟩; rw [hS] at hr))
        go_ret
        exact ⟨rfl, hr, hg⟩
  · clear h
    have d1 : decide ((s.p : Int) < (len : Int)) = false := decide_eq_false (by omega)
    have d2 : decide (s.p < len) = false := decide_eq_false hlt
    have hS : passS s (s.p + 1) false = ⟨s.p, true⟩ := by simp [passS]
    simp only [d2, Bool.false_and, Bool.and_false, Bool.false_eq_true, if_false]
    go_enter Tryd.func88, Tryd.ntmps88
    go_wp2_with (go_at_call 100; refine (PA.out _ _ (s.p + 1) false (by first | exact Below.refl _ _ | go_grown) (by simp)).mono ?_; rintro e w2 ⟨rfl, hr, hg⟩; rw [hS] at hr)
    go_ret
    exact ⟨rfl, hr, hg⟩
set_option maxHeartbeats 2000000 in
theorem octet_bt (w : World) (b len cap : Nat) (a : Option Addr) (f : Nat → Int) (s : St) (h : Rdr w b a len cap f s) :
    Calls Tryd.prog 88 #[.pointer (some ⟨b, 0, none⟩), .func (.func 103) #[] #[]] w (PostR w b a len cap f (.int .i64 (octP f len bitB s).1) (octP f len bitB s).2) := by
  have c0 := h.c0
  have c1 := h.c1
  have bl := h.bl
  have hle := h.le
  have hsm := h.small
  have PA : Hid (∀ X x n ok, Below w.heap.size w X → (ok = true → x = ((n : Nat) : Int) ∧ n ≤ len) → Calls Tryd.prog 100 #[.pointer (some ⟨b, 0, none⟩), .int .i64 x, .bool ok] X (PostR X b a len cap f (.bool (!s.st && ok)) (passS s n ok))) := fun X x n ok hX hx => pass_any X b len cap a f s (h.below hX) x n ok hx
  have MY : Hid (∀ X x, Calls Tryd.prog 103 #[.int .i64 x] X fun e w' => e = .returned (.bool (bitB x)) ∧ w' = X) := fun X x => bits_fn x X
  have e1 : IntKind.i64.wrap ((s.p : Int) + 1) = s.p + 1 := by rw [IntWalk.i64_left, IntWalk.wrap64_in]; omega
  unfold octP
  by_cases hlt : s.p < len
  · have hr := h.src.rd.2
    rcases hr with h0 | ⟨q, off, rfl, hc⟩
    · omega
    obtain ⟨cq, f0, f1⟩ := hc s.p hlt
    have hap := h.ap _ rfl
    have CQ : Hid (∀ X, w.grownBy X (some b) → X.cell? ⟨q, off + s.p, none⟩ = some (.int .u8 (f s.p)) ∧ X.heap.size = X.heap.size) := fun X hX => ⟨(World.cell?_of_block (a := ⟨q, off + s.p, none⟩) (hX.block q hap.2 (fun e => hap.1 (by injection e)))).trans cq, rfl⟩
    clear h hc hap
    have d1 : decide ((s.p : Int) < (len : Int)) = true := decide_eq_true (by omega)
    have d2 : decide (s.p < len) = true := decide_eq_true hlt
    have i0 : (0 : Int) ≤ (s.p : Int) := by omega
    have i1 : (s.p : Int) < (len : Int) := by omega
    have e2 : IntKind.i64.wrap (f s.p) = f s.p := by rw [IntWalk.i64_left, IntWalk.wrap64_in]; omega
    have MZ : Hid (∀ X, Calls Tryd.prog 103 #[.int .i64 (f s.p)] X fun e w' => e = .returned (.bool (bitB (f s.p))) ∧ w' = X) := fun X => MY.out X (f s.p)
    clear MY
    cases hm : bitB (f s.p)
    · rw [hm] at MZ
      have hS : passS s (s.p + 1) false = ⟨s.p, true⟩ := by simp [passS]
      simp only [d2, Bool.and_false, Bool.false_eq_true, if_false]
      go_enter Tryd.func88, Tryd.ntmps88
      go_wp2_with (first
        | (go_at_call 103; refine (MZ.out _).mono ?_; rintro e w1 ⟨rfl, rfl⟩)
        | (go_at_call 100; refine (PA.out _ _ (s.p + 1) false (by first | exact Below.refl _ _ | go_grown) (by simp)).mono ?_; rintro e w2 ⟨rfl, hr, hg⟩; rw [hS] at hr))
      go_ret
      exact ⟨rfl, hr, hg⟩
    · rw [hm] at MZ
      cases hst : s.st
      · rw [hst] at PA
        have hS : passS s (s.p + 1) true = ⟨s.p + 1, false⟩ := by simp [passS, hst]
        simp only [d2, Bool.not_false, Bool.and_self, if_true]
        go_enter Tryd.func88, Tryd.ntmps88
        go_wp2_with (first
          | (go_at_call 103; refine (MZ.out _).mono ?_; rintro e w1 ⟨rfl, rfl⟩)
          | (go_at_call 100; refine (PA.out _ _ (s.p + 1) true (by first | exact Below.refl _ _ | go_grown) (fun _ => ⟨by omega, by omega⟩)).mono ?_; rintro e w2 ⟨rfl, hr, hg⟩; rw [hS] at hr; have k0 := hr.c0; have kq := (CQ.out _ hg).1; have HR : Hid (Rdr w2 b (some ⟨q, off, none⟩) len cap f ⟨s.p + 1, false⟩) := hr; clear hr))
        go_ret
        exact ⟨rfl, HR.out, hg⟩
      · rw [hst] at PA
        have hS : passS s (s.p + 1) true = ⟨s.p, true⟩ := by simp [passS, hst]
        simp only [d2, Bool.not_true, Bool.false_and, Bool.false_eq_true, if_false]
        go_enter Tryd.func88, Tryd.ntmps88
        go_wp2_with (first
          | (go_at_call 103; refine (MZ.out _).mono ?_; rintro e w1 ⟨rfl, rfl⟩)
          | (go_at_call 100; refine (PA.out _ _ (s.p + 1) true (by first | exact Below.refl _ _ | go_grown) (fun _ => ⟨by omega, by omega⟩)).mono ?_; rintro e w2 ⟨rfl, hr, hg⟩; rw [hS] at hr))
        go_ret
        exact ⟨rfl, hr, hg⟩
  · clear h
    have d1 : decide ((s.p : Int) < (len : Int)) = false := decide_eq_false (by omega)
    have d2 : decide (s.p < len) = false := decide_eq_false hlt
    have hS : passS s (s.p + 1) false = ⟨s.p, true⟩ := by simp [passS]
    simp only [d2, Bool.false_and, Bool.and_false, Bool.false_eq_true, if_false]
    go_enter Tryd.func88, Tryd.ntmps88
    go_wp2_with (go_at_call 100; refine (PA.out _ _ (s.p + 1) false (by first | exact Below.refl _ _ | go_grown) (by simp)).mono ?_; rintro e w2 ⟨rfl, hr, hg⟩; rw [hS] at hr)
    go_ret
    exact ⟨rfl, hr, hg⟩
end Go.Proofs.YtcppgpcgbggdcaaDoor
