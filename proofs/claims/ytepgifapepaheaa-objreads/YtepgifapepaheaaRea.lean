/-
  Layer 7: whether each thing of a row is right, as a function says of one behind the other.
-/
import Derived.Test.YtepgifapepaheaaRnn
namespace Go.Proofs.Ytepgifapepaheaa
set_option linter.unusedVariables false
set_option linter.unusedSimpArgs false
open Go.ChangeShapes Go.WideShapes Go.ChangeAt Go.RowKit

def eachB (n : Nat) (most : Int) (P : Nat → Bool) : Bool := decide ((n : Int) ≤ most) && (List.range n).all P
theorem eachB_all {n : Nat} {most : Int} {P : Nat → Bool} (hm : (n : Int) ≤ most) (h : ∀ j, j < n → P j = true) : eachB n most P = true := by
  unfold eachB
  rw [decide_eq_true hm, Bool.true_and, List.all_eq_true]
  intro j hj; exact h j (List.mem_range.1 hj)
theorem eachB_not {n : Nat} {most : Int} {P : Nat → Bool} {i : Nat} (hi : i < n) (h : P i = false) : eachB n most P = false := by
  unfold eachB
  cases hx : (List.range n).all P
  · rw [Bool.and_false]
  · rw [List.all_eq_true] at hx
    rw [hx i (List.mem_range.2 hi)] at h; cases h
theorem eachB_many {n : Nat} {most : Int} {P : Nat → Bool} (h : most < (n : Int)) : eachB n most P = false := by
  unfold eachB
  rw [decide_eq_false (by omega)]; rfl
set_option maxHeartbeats 4000000 in
set_option maxRecDepth 20000 in
theorem each_proc (I : Nat → World → Prop) (Q : World → Prop) (P : Nat → Bool) (x : Nat → Int) (a : Option Addr) (n c : Nat) (most : Int) (p : Nat) (q : Nat) (w : World) (h0 : I 0 w) (hI : ∀ i X Y, I i X → Below X.heap.size X Y → I i Y)
    (hR : ∀ i X, I i X → n = 0 ∨ ∃ g off, a = some ⟨g, off, none⟩ ∧ g < X.heap.size ∧ ∀ j, j < n → X.cell? ⟨g, off + j, none⟩ = some (.int .i64 (x j))) (hQ : ∀ i X, I i X → Q X) (hn : n ≤ 140737488355328)
    (hP : (n : Int) ≤ most → ∀ i, i < n → ∀ X, I i X → Calls Try.prog 60 #[.int .i64 (i : Int), .int .i64 (x i), .pointer (some ⟨p, 0, none⟩), .pointer (some ⟨q, 0, none⟩)] X fun e Y => e = .returned (.bool (P i)) ∧ (P i = true → I (i + 1) Y) ∧ (P i = false → Q Y)) :
    Calls Try.prog 59 #[.slice a n c, .int .i64 most, .func (.func 60) #[] #[.pointer (some ⟨p, 0, none⟩), .pointer (some ⟨q, 0, none⟩)]] w fun e w' => e = .returned (.bool (eachB n most P)) ∧ Q w' := by
  have HP : Hid ((n : Int) ≤ most → ∀ i, i < n → ∀ X, I i X → Calls Try.prog 60 #[.int .i64 (i : Int), .int .i64 (x i), .pointer (some ⟨p, 0, none⟩), .pointer (some ⟨q, 0, none⟩)] X fun e Y => e = .returned (.bool (P i)) ∧ (P i = true → I (i + 1) Y) ∧ (P i = false → Q Y)) := hP
  have HR : Hid (∀ i X, I i X → n = 0 ∨ ∃ g off, a = some ⟨g, off, none⟩ ∧ g < X.heap.size ∧ ∀ j, j < n → X.cell? ⟨g, off + j, none⟩ = some (.int .i64 (x j))) := hR
  have HQ : Hid (∀ i X, I i X → Q X) := hQ
  have HI : Hid (∀ i X Y, I i X → Below X.heap.size X Y → I i Y) := hI
  have H0 : Hid (I 0 w) := h0
  clear hP hR hQ hI h0
  by_cases hm : (n : Int) ≤ most
  · have d0 : decide (most < (n : Int)) = false := decide_eq_false (by omega)
    go_enter Try.func59, Try.ntmps59
    go_wp2
    go_loopg [7, 8, 15] n (fun gf s7 s8 s15 wx => ∃ i : Nat, s15 = .int .i64 (i : Int) ∧ i + gf = n ∧ Hid ((∀ j, j < i → P j = true) ∧ I i wx))
    case atStart => exact ⟨0, rfl, by omega, (fun j hj => by omega), H0.out⟩
    case round =>
      obtain ⟨i, rfl, hi, HH⟩ := hrel
      by_cases hlt : i < n
      · obtain ⟨g', rfl⟩ : ∃ g', gk = g' + 1 := ⟨gk - 1, by omega⟩
        have d1 : decide ((i : Int) < (n : Int)) = true := decide_eq_true (by omega)
        have j0 : (0 : Int) ≤ (i : Int) := by omega
        have j1 : (i : Int) < (n : Int) := by omega
        rcases HR.out i wr HH.out.2 with h0 | ⟨g, off, rfl, hg, hc⟩
        · omega
        have k0 : wr.cell? ⟨g, off + i, none⟩ = some (.int .i64 (x i)) := hc i hlt
        clear hc
        cases hp : P i
        · have PC : Hid (∀ X, I i X → Calls Try.prog 60 #[.int .i64 (i : Int), .int .i64 (x i), .pointer (some ⟨p, 0, none⟩), .pointer (some ⟨q, 0, none⟩)] X fun e Y => e = .returned (.bool false) ∧ Q Y) := fun X hX => (HP.out (by omega) i hlt X hX).mono fun e Y h => ⟨by rw [← hp]; exact h.1, h.2.2 hp⟩
          go_wp2_with (go_at_call 60; refine (PC.out _ (HI.out _ _ _ HH.out.2 (by first | exact Below.refl _ _ | go_grown))).mono ?_; rintro e w2 ⟨rfl, hq⟩)
          go_ret
          exact ⟨ret_bool (eachB_not hlt hp).symm, hq⟩
        · have PC : Hid (∀ X, I i X → Calls Try.prog 60 #[.int .i64 (i : Int), .int .i64 (x i), .pointer (some ⟨p, 0, none⟩), .pointer (some ⟨q, 0, none⟩)] X fun e Y => e = .returned (.bool true) ∧ I (i + 1) Y) := fun X hX => (HP.out (by omega) i hlt X hX).mono fun e Y h => ⟨by rw [← hp]; exact h.1, h.2.1 hp⟩
          go_wp2_with (go_at_call 60; refine (PC.out _ (HI.out _ _ _ HH.out.2 (by first | exact Below.refl _ _ | go_grown))).mono ?_; rintro e w2 ⟨rfl, hq⟩)
          go_roundg g'
          case measure => omega
          case rel => exact ⟨i + 1, by simp, by omega, (fun j hj => by rcases Nat.lt_succ_iff_lt_or_eq.1 hj with h | h; exact HH.out.1 j h; rw [h]; exact hp), hq⟩
      · have d1 : decide ((i : Int) < (n : Int)) = false := decide_eq_false (by omega)
        go_wp2
        go_ret
        exact ⟨ret_bool (eachB_all hm fun j hj => HH.out.1 j (by omega)).symm, HQ.out _ _ HH.out.2⟩
  · have d0 : decide (most < (n : Int)) = true := decide_eq_true (by omega)
    go_enter Try.func59, Try.ntmps59
    go_wp2
    go_ret
    exact ⟨ret_bool (eachB_many (by omega)).symm, HQ.out _ _ H0.out⟩
set_option maxHeartbeats 4000000 in
set_option maxRecDepth 20000 in
theorem each_size (I : Nat → World → Prop) (Q : World → Prop) (P : Nat → Bool) (x : Nat → Int) (a : Option Addr) (n c : Nat) (most : Int) (w : World) (h0 : I 0 w) (hI : ∀ i X Y, I i X → Below X.heap.size X Y → I i Y)
    (hR : ∀ i X, I i X → n = 0 ∨ ∃ g off, a = some ⟨g, off, none⟩ ∧ g < X.heap.size ∧ ∀ j, j < n → X.cell? ⟨g, off + j, none⟩ = some (.int .i64 (x j))) (hQ : ∀ i X, I i X → Q X) (hn : n ≤ 140737488355328)
    (hP : (n : Int) ≤ most → ∀ i, i < n → ∀ X, I i X → Calls Try.prog 61 #[.int .i64 (i : Int), .int .i64 (x i)] X fun e Y => e = .returned (.bool (P i)) ∧ (P i = true → I (i + 1) Y) ∧ (P i = false → Q Y)) :
    Calls Try.prog 59 #[.slice a n c, .int .i64 most, .func (.func 61) #[] #[]] w fun e w' => e = .returned (.bool (eachB n most P)) ∧ Q w' := by
  have HP : Hid ((n : Int) ≤ most → ∀ i, i < n → ∀ X, I i X → Calls Try.prog 61 #[.int .i64 (i : Int), .int .i64 (x i)] X fun e Y => e = .returned (.bool (P i)) ∧ (P i = true → I (i + 1) Y) ∧ (P i = false → Q Y)) := hP
  have HR : Hid (∀ i X, I i X → n = 0 ∨ ∃ g off, a = some ⟨g, off, none⟩ ∧ g < X.heap.size ∧ ∀ j, j < n → X.cell? ⟨g, off + j, none⟩ = some (.int .i64 (x j))) := hR
  have HQ : Hid (∀ i X, I i X → Q X) := hQ
  have HI : Hid (∀ i X Y, I i X → Below X.heap.size X Y → I i Y) := hI
  have H0 : Hid (I 0 w) := h0
  clear hP hR hQ hI h0
  by_cases hm : (n : Int) ≤ most
  · have d0 : decide (most < (n : Int)) = false := decide_eq_false (by omega)
    go_enter Try.func59, Try.ntmps59
    go_wp2
    go_loopg [7, 8, 15] n (fun gf s7 s8 s15 wx => ∃ i : Nat, s15 = .int .i64 (i : Int) ∧ i + gf = n ∧ Hid ((∀ j, j < i → P j = true) ∧ I i wx))
    case atStart => exact ⟨0, rfl, by omega, (fun j hj => by omega), H0.out⟩
    case round =>
      obtain ⟨i, rfl, hi, HH⟩ := hrel
      by_cases hlt : i < n
      · obtain ⟨g', rfl⟩ : ∃ g', gk = g' + 1 := ⟨gk - 1, by omega⟩
        have d1 : decide ((i : Int) < (n : Int)) = true := decide_eq_true (by omega)
        have j0 : (0 : Int) ≤ (i : Int) := by omega
        have j1 : (i : Int) < (n : Int) := by omega
        rcases HR.out i wr HH.out.2 with h0 | ⟨g, off, rfl, hg, hc⟩
        · omega
        have k0 : wr.cell? ⟨g, off + i, none⟩ = some (.int .i64 (x i)) := hc i hlt
        clear hc
        cases hp : P i
        · have PC : Hid (∀ X, I i X → Calls Try.prog 61 #[.int .i64 (i : Int), .int .i64 (x i)] X fun e Y => e = .returned (.bool false) ∧ Q Y) := fun X hX => (HP.out (by omega) i hlt X hX).mono fun e Y h => ⟨by rw [← hp]; exact h.1, h.2.2 hp⟩
          go_wp2_with (go_at_call 61; refine (PC.out _ (HI.out _ _ _ HH.out.2 (by first | exact Below.refl _ _ | go_grown))).mono ?_; rintro e w2 ⟨rfl, hq⟩)
          go_ret
          exact ⟨ret_bool (eachB_not hlt hp).symm, hq⟩
        · have PC : Hid (∀ X, I i X → Calls Try.prog 61 #[.int .i64 (i : Int), .int .i64 (x i)] X fun e Y => e = .returned (.bool true) ∧ I (i + 1) Y) := fun X hX => (HP.out (by omega) i hlt X hX).mono fun e Y h => ⟨by rw [← hp]; exact h.1, h.2.1 hp⟩
          go_wp2_with (go_at_call 61; refine (PC.out _ (HI.out _ _ _ HH.out.2 (by first | exact Below.refl _ _ | go_grown))).mono ?_; rintro e w2 ⟨rfl, hq⟩)
          go_roundg g'
          case measure => omega
          case rel => exact ⟨i + 1, by simp, by omega, (fun j hj => by rcases Nat.lt_succ_iff_lt_or_eq.1 hj with h | h; exact HH.out.1 j h; rw [h]; exact hp), hq⟩
      · have d1 : decide ((i : Int) < (n : Int)) = false := decide_eq_false (by omega)
        go_wp2
        go_ret
        exact ⟨ret_bool (eachB_all hm fun j hj => HH.out.1 j (by omega)).symm, HQ.out _ _ HH.out.2⟩
  · have d0 : decide (most < (n : Int)) = true := decide_eq_true (by omega)
    go_enter Try.func59, Try.ntmps59
    go_wp2
    go_ret
    exact ⟨ret_bool (eachB_many (by omega)).symm, HQ.out _ _ H0.out⟩
set_option maxHeartbeats 4000000 in
set_option maxRecDepth 20000 in
theorem each_shown (I : Nat → World → Prop) (Q : World → Prop) (P : Nat → Bool) (x : Nat → Int) (a : Option Addr) (n c : Nat) (most : Int) (p : Nat) (w : World) (h0 : I 0 w) (hI : ∀ i X Y, I i X → Below X.heap.size X Y → I i Y)
    (hR : ∀ i X, I i X → n = 0 ∨ ∃ g off, a = some ⟨g, off, none⟩ ∧ g < X.heap.size ∧ ∀ j, j < n → X.cell? ⟨g, off + j, none⟩ = some (.int .i64 (x j))) (hQ : ∀ i X, I i X → Q X) (hn : n ≤ 140737488355328)
    (hP : (n : Int) ≤ most → ∀ i, i < n → ∀ X, I i X → Calls Try.prog 62 #[.int .i64 (i : Int), .int .i64 (x i), .pointer (some ⟨p, 0, none⟩)] X fun e Y => e = .returned (.bool (P i)) ∧ (P i = true → I (i + 1) Y) ∧ (P i = false → Q Y)) :
    Calls Try.prog 59 #[.slice a n c, .int .i64 most, .func (.func 62) #[] #[.pointer (some ⟨p, 0, none⟩)]] w fun e w' => e = .returned (.bool (eachB n most P)) ∧ Q w' := by
  have HP : Hid ((n : Int) ≤ most → ∀ i, i < n → ∀ X, I i X → Calls Try.prog 62 #[.int .i64 (i : Int), .int .i64 (x i), .pointer (some ⟨p, 0, none⟩)] X fun e Y => e = .returned (.bool (P i)) ∧ (P i = true → I (i + 1) Y) ∧ (P i = false → Q Y)) := hP
  have HR : Hid (∀ i X, I i X → n = 0 ∨ ∃ g off, a = some ⟨g, off, none⟩ ∧ g < X.heap.size ∧ ∀ j, j < n → X.cell? ⟨g, off + j, none⟩ = some (.int .i64 (x j))) := hR
  have HQ : Hid (∀ i X, I i X → Q X) := hQ
  have HI : Hid (∀ i X Y, I i X → Below X.heap.size X Y → I i Y) := hI
  have H0 : Hid (I 0 w) := h0
  clear hP hR hQ hI h0
  by_cases hm : (n : Int) ≤ most
  · have d0 : decide (most < (n : Int)) = false := decide_eq_false (by omega)
    go_enter Try.func59, Try.ntmps59
    go_wp2
    go_loopg [7, 8, 15] n (fun gf s7 s8 s15 wx => ∃ i : Nat, s15 = .int .i64 (i : Int) ∧ i + gf = n ∧ Hid ((∀ j, j < i → P j = true) ∧ I i wx))
    case atStart => exact ⟨0, rfl, by omega, (fun j hj => by omega), H0.out⟩
    case round =>
      obtain ⟨i, rfl, hi, HH⟩ := hrel
      by_cases hlt : i < n
      · obtain ⟨g', rfl⟩ : ∃ g', gk = g' + 1 := ⟨gk - 1, by omega⟩
        have d1 : decide ((i : Int) < (n : Int)) = true := decide_eq_true (by omega)
        have j0 : (0 : Int) ≤ (i : Int) := by omega
        have j1 : (i : Int) < (n : Int) := by omega
        rcases HR.out i wr HH.out.2 with h0 | ⟨g, off, rfl, hg, hc⟩
        · omega
        have k0 : wr.cell? ⟨g, off + i, none⟩ = some (.int .i64 (x i)) := hc i hlt
        clear hc
        cases hp : P i
        · have PC : Hid (∀ X, I i X → Calls Try.prog 62 #[.int .i64 (i : Int), .int .i64 (x i), .pointer (some ⟨p, 0, none⟩)] X fun e Y => e = .returned (.bool false) ∧ Q Y) := fun X hX => (HP.out (by omega) i hlt X hX).mono fun e Y h => ⟨by rw [← hp]; exact h.1, h.2.2 hp⟩
          go_wp2_with (go_at_call 62; refine (PC.out _ (HI.out _ _ _ HH.out.2 (by first | exact Below.refl _ _ | go_grown))).mono ?_; rintro e w2 ⟨rfl, hq⟩)
          go_ret
          exact ⟨ret_bool (eachB_not hlt hp).symm, hq⟩
        · have PC : Hid (∀ X, I i X → Calls Try.prog 62 #[.int .i64 (i : Int), .int .i64 (x i), .pointer (some ⟨p, 0, none⟩)] X fun e Y => e = .returned (.bool true) ∧ I (i + 1) Y) := fun X hX => (HP.out (by omega) i hlt X hX).mono fun e Y h => ⟨by rw [← hp]; exact h.1, h.2.1 hp⟩
          go_wp2_with (go_at_call 62; refine (PC.out _ (HI.out _ _ _ HH.out.2 (by first | exact Below.refl _ _ | go_grown))).mono ?_; rintro e w2 ⟨rfl, hq⟩)
          go_roundg g'
          case measure => omega
          case rel => exact ⟨i + 1, by simp, by omega, (fun j hj => by rcases Nat.lt_succ_iff_lt_or_eq.1 hj with h | h; exact HH.out.1 j h; rw [h]; exact hp), hq⟩
      · have d1 : decide ((i : Int) < (n : Int)) = false := decide_eq_false (by omega)
        go_wp2
        go_ret
        exact ⟨ret_bool (eachB_all hm fun j hj => HH.out.1 j (by omega)).symm, HQ.out _ _ HH.out.2⟩
  · have d0 : decide (most < (n : Int)) = true := decide_eq_true (by omega)
    go_enter Try.func59, Try.ntmps59
    go_wp2
    go_ret
    exact ⟨ret_bool (eachB_many (by omega)).symm, HQ.out _ _ H0.out⟩
set_option maxHeartbeats 4000000 in
set_option maxRecDepth 20000 in
theorem each_tag (I : Nat → World → Prop) (Q : World → Prop) (P : Nat → Bool) (x : Nat → Int) (a : Option Addr) (n c : Nat) (most : Int) (p : Nat) (w : World) (h0 : I 0 w) (hI : ∀ i X Y, I i X → Below X.heap.size X Y → I i Y)
    (hR : ∀ i X, I i X → n = 0 ∨ ∃ g off, a = some ⟨g, off, none⟩ ∧ g < X.heap.size ∧ ∀ j, j < n → X.cell? ⟨g, off + j, none⟩ = some (.int .i64 (x j))) (hQ : ∀ i X, I i X → Q X) (hn : n ≤ 140737488355328)
    (hP : (n : Int) ≤ most → ∀ i, i < n → ∀ X, I i X → Calls Try.prog 78 #[.int .i64 (i : Int), .int .i64 (x i), .pointer (some ⟨p, 0, none⟩)] X fun e Y => e = .returned (.bool (P i)) ∧ (P i = true → I (i + 1) Y) ∧ (P i = false → Q Y)) :
    Calls Try.prog 59 #[.slice a n c, .int .i64 most, .func (.func 78) #[] #[.pointer (some ⟨p, 0, none⟩)]] w fun e w' => e = .returned (.bool (eachB n most P)) ∧ Q w' := by
  have HP : Hid ((n : Int) ≤ most → ∀ i, i < n → ∀ X, I i X → Calls Try.prog 78 #[.int .i64 (i : Int), .int .i64 (x i), .pointer (some ⟨p, 0, none⟩)] X fun e Y => e = .returned (.bool (P i)) ∧ (P i = true → I (i + 1) Y) ∧ (P i = false → Q Y)) := hP
  have HR : Hid (∀ i X, I i X → n = 0 ∨ ∃ g off, a = some ⟨g, off, none⟩ ∧ g < X.heap.size ∧ ∀ j, j < n → X.cell? ⟨g, off + j, none⟩ = some (.int .i64 (x j))) := hR
  have HQ : Hid (∀ i X, I i X → Q X) := hQ
  have HI : Hid (∀ i X Y, I i X → Below X.heap.size X Y → I i Y) := hI
  have H0 : Hid (I 0 w) := h0
  clear hP hR hQ hI h0
  by_cases hm : (n : Int) ≤ most
  · have d0 : decide (most < (n : Int)) = false := decide_eq_false (by omega)
    go_enter Try.func59, Try.ntmps59
    go_wp2
    go_loopg [7, 8, 15] n (fun gf s7 s8 s15 wx => ∃ i : Nat, s15 = .int .i64 (i : Int) ∧ i + gf = n ∧ Hid ((∀ j, j < i → P j = true) ∧ I i wx))
    case atStart => exact ⟨0, rfl, by omega, (fun j hj => by omega), H0.out⟩
    case round =>
      obtain ⟨i, rfl, hi, HH⟩ := hrel
      by_cases hlt : i < n
      · obtain ⟨g', rfl⟩ : ∃ g', gk = g' + 1 := ⟨gk - 1, by omega⟩
        have d1 : decide ((i : Int) < (n : Int)) = true := decide_eq_true (by omega)
        have j0 : (0 : Int) ≤ (i : Int) := by omega
        have j1 : (i : Int) < (n : Int) := by omega
        rcases HR.out i wr HH.out.2 with h0 | ⟨g, off, rfl, hg, hc⟩
        · omega
        have k0 : wr.cell? ⟨g, off + i, none⟩ = some (.int .i64 (x i)) := hc i hlt
        clear hc
        cases hp : P i
        · have PC : Hid (∀ X, I i X → Calls Try.prog 78 #[.int .i64 (i : Int), .int .i64 (x i), .pointer (some ⟨p, 0, none⟩)] X fun e Y => e = .returned (.bool false) ∧ Q Y) := fun X hX => (HP.out (by omega) i hlt X hX).mono fun e Y h => ⟨by rw [← hp]; exact h.1, h.2.2 hp⟩
          go_wp2_with (go_at_call 78; refine (PC.out _ (HI.out _ _ _ HH.out.2 (by first | exact Below.refl _ _ | go_grown))).mono ?_; rintro e w2 ⟨rfl, hq⟩)
          go_ret
          exact ⟨ret_bool (eachB_not hlt hp).symm, hq⟩
        · have PC : Hid (∀ X, I i X → Calls Try.prog 78 #[.int .i64 (i : Int), .int .i64 (x i), .pointer (some ⟨p, 0, none⟩)] X fun e Y => e = .returned (.bool true) ∧ I (i + 1) Y) := fun X hX => (HP.out (by omega) i hlt X hX).mono fun e Y h => ⟨by rw [← hp]; exact h.1, h.2.1 hp⟩
          go_wp2_with (go_at_call 78; refine (PC.out _ (HI.out _ _ _ HH.out.2 (by first | exact Below.refl _ _ | go_grown))).mono ?_; rintro e w2 ⟨rfl, hq⟩)
          go_roundg g'
          case measure => omega
          case rel => exact ⟨i + 1, by simp, by omega, (fun j hj => by rcases Nat.lt_succ_iff_lt_or_eq.1 hj with h | h; exact HH.out.1 j h; rw [h]; exact hp), hq⟩
      · have d1 : decide ((i : Int) < (n : Int)) = false := decide_eq_false (by omega)
        go_wp2
        go_ret
        exact ⟨ret_bool (eachB_all hm fun j hj => HH.out.1 j (by omega)).symm, HQ.out _ _ HH.out.2⟩
  · have d0 : decide (most < (n : Int)) = true := decide_eq_true (by omega)
    go_enter Try.func59, Try.ntmps59
    go_wp2
    go_ret
    exact ⟨ret_bool (eachB_many (by omega)).symm, HQ.out _ _ H0.out⟩
set_option maxHeartbeats 4000000 in
set_option maxRecDepth 20000 in
theorem each_short (I : Nat → World → Prop) (Q : World → Prop) (P : Nat → Bool) (x : Nat → ByteArray) (a : Option Addr) (n c : Nat) (most : Int) (w : World) (h0 : I 0 w) (hI : ∀ i X Y, I i X → Below X.heap.size X Y → I i Y)
    (hR : ∀ i X, I i X → n = 0 ∨ ∃ g off, a = some ⟨g, off, none⟩ ∧ g < X.heap.size ∧ ∀ j, j < n → X.cell? ⟨g, off + j, none⟩ = some (.string (x j))) (hQ : ∀ i X, I i X → Q X) (hn : n ≤ 140737488355328)
    (hP : (n : Int) ≤ most → ∀ i, i < n → ∀ X, I i X → Calls Try.prog 63 #[.int .i64 (i : Int), .string (x i)] X fun e Y => e = .returned (.bool (P i)) ∧ (P i = true → I (i + 1) Y) ∧ (P i = false → Q Y)) :
    Calls Try.prog 64 #[.slice a n c, .int .i64 most, .func (.func 63) #[] #[]] w fun e w' => e = .returned (.bool (eachB n most P)) ∧ Q w' := by
  have HP : Hid ((n : Int) ≤ most → ∀ i, i < n → ∀ X, I i X → Calls Try.prog 63 #[.int .i64 (i : Int), .string (x i)] X fun e Y => e = .returned (.bool (P i)) ∧ (P i = true → I (i + 1) Y) ∧ (P i = false → Q Y)) := hP
  have HR : Hid (∀ i X, I i X → n = 0 ∨ ∃ g off, a = some ⟨g, off, none⟩ ∧ g < X.heap.size ∧ ∀ j, j < n → X.cell? ⟨g, off + j, none⟩ = some (.string (x j))) := hR
  have HQ : Hid (∀ i X, I i X → Q X) := hQ
  have HI : Hid (∀ i X Y, I i X → Below X.heap.size X Y → I i Y) := hI
  have H0 : Hid (I 0 w) := h0
  clear hP hR hQ hI h0
  by_cases hm : (n : Int) ≤ most
  · have d0 : decide (most < (n : Int)) = false := decide_eq_false (by omega)
    go_enter Try.func64, Try.ntmps64
    go_wp2
    go_loopg [7, 8, 15] n (fun gf s7 s8 s15 wx => ∃ i : Nat, s15 = .int .i64 (i : Int) ∧ i + gf = n ∧ Hid ((∀ j, j < i → P j = true) ∧ I i wx))
    case atStart => exact ⟨0, rfl, by omega, (fun j hj => by omega), H0.out⟩
    case round =>
      obtain ⟨i, rfl, hi, HH⟩ := hrel
      by_cases hlt : i < n
      · obtain ⟨g', rfl⟩ : ∃ g', gk = g' + 1 := ⟨gk - 1, by omega⟩
        have d1 : decide ((i : Int) < (n : Int)) = true := decide_eq_true (by omega)
        have j0 : (0 : Int) ≤ (i : Int) := by omega
        have j1 : (i : Int) < (n : Int) := by omega
        rcases HR.out i wr HH.out.2 with h0 | ⟨g, off, rfl, hg, hc⟩
        · omega
        have k0 : wr.cell? ⟨g, off + i, none⟩ = some (.string (x i)) := hc i hlt
        clear hc
        cases hp : P i
        · have PC : Hid (∀ X, I i X → Calls Try.prog 63 #[.int .i64 (i : Int), .string (x i)] X fun e Y => e = .returned (.bool false) ∧ Q Y) := fun X hX => (HP.out (by omega) i hlt X hX).mono fun e Y h => ⟨by rw [← hp]; exact h.1, h.2.2 hp⟩
          go_wp2_with (go_at_call 63; refine (PC.out _ (HI.out _ _ _ HH.out.2 (by first | exact Below.refl _ _ | go_grown))).mono ?_; rintro e w2 ⟨rfl, hq⟩)
          go_ret
          exact ⟨ret_bool (eachB_not hlt hp).symm, hq⟩
        · have PC : Hid (∀ X, I i X → Calls Try.prog 63 #[.int .i64 (i : Int), .string (x i)] X fun e Y => e = .returned (.bool true) ∧ I (i + 1) Y) := fun X hX => (HP.out (by omega) i hlt X hX).mono fun e Y h => ⟨by rw [← hp]; exact h.1, h.2.1 hp⟩
          go_wp2_with (go_at_call 63; refine (PC.out _ (HI.out _ _ _ HH.out.2 (by first | exact Below.refl _ _ | go_grown))).mono ?_; rintro e w2 ⟨rfl, hq⟩)
          go_roundg g'
          case measure => omega
          case rel => exact ⟨i + 1, by simp, by omega, (fun j hj => by rcases Nat.lt_succ_iff_lt_or_eq.1 hj with h | h; exact HH.out.1 j h; rw [h]; exact hp), hq⟩
      · have d1 : decide ((i : Int) < (n : Int)) = false := decide_eq_false (by omega)
        go_wp2
        go_ret
        exact ⟨ret_bool (eachB_all hm fun j hj => HH.out.1 j (by omega)).symm, HQ.out _ _ HH.out.2⟩
  · have d0 : decide (most < (n : Int)) = true := decide_eq_true (by omega)
    go_enter Try.func64, Try.ntmps64
    go_wp2
    go_ret
    exact ⟨ret_bool (eachB_many (by omega)).symm, HQ.out _ _ H0.out⟩
set_option maxHeartbeats 4000000 in
set_option maxRecDepth 20000 in
theorem each_imp (I : Nat → World → Prop) (Q : World → Prop) (P : Nat → Bool) (x : Nat → ByteArray × Int) (a : Option Addr) (n c : Nat) (most : Int) (p : Nat) (w : World) (h0 : I 0 w) (hI : ∀ i X Y, I i X → Below X.heap.size X Y → I i Y)
    (hR : ∀ i X, I i X → n = 0 ∨ ∃ g off, a = some ⟨g, off, none⟩ ∧ g < X.heap.size ∧ ∀ j, j < n → ∀ m, m < 2 → X.cell? ⟨g, off + (j * 2 + m), none⟩ = (iEnc (x j))[m]?) (hQ : ∀ i X, I i X → Q X) (hn : n ≤ 140737488355328)
    (hP : (n : Int) ≤ most → ∀ i, i < n → ∀ X, I i X → Calls Try.prog 57 #[.int .i64 (i : Int), .agg (iEnc (x i)), .pointer (some ⟨p, 0, none⟩)] X fun e Y => e = .returned (.bool (P i)) ∧ (P i = true → I (i + 1) Y) ∧ (P i = false → Q Y)) :
    Calls Try.prog 56 #[.slice a n c, .int .i64 most, .func (.func 57) #[] #[.pointer (some ⟨p, 0, none⟩)]] w fun e w' => e = .returned (.bool (eachB n most P)) ∧ Q w' := by
  have HP : Hid ((n : Int) ≤ most → ∀ i, i < n → ∀ X, I i X → Calls Try.prog 57 #[.int .i64 (i : Int), .agg (iEnc (x i)), .pointer (some ⟨p, 0, none⟩)] X fun e Y => e = .returned (.bool (P i)) ∧ (P i = true → I (i + 1) Y) ∧ (P i = false → Q Y)) := hP
  have HR : Hid (∀ i X, I i X → n = 0 ∨ ∃ g off, a = some ⟨g, off, none⟩ ∧ g < X.heap.size ∧ ∀ j, j < n → ∀ m, m < 2 → X.cell? ⟨g, off + (j * 2 + m), none⟩ = (iEnc (x j))[m]?) := hR
  have HQ : Hid (∀ i X, I i X → Q X) := hQ
  have HI : Hid (∀ i X Y, I i X → Below X.heap.size X Y → I i Y) := hI
  have H0 : Hid (I 0 w) := h0
  clear hP hR hQ hI h0
  by_cases hm : (n : Int) ≤ most
  · have d0 : decide (most < (n : Int)) = false := decide_eq_false (by omega)
    go_enter Try.func56, Try.ntmps56
    go_wp2
    go_loopg [7, 8, 15] n (fun gf s7 s8 s15 wx => ∃ i : Nat, s15 = .int .i64 (i : Int) ∧ i + gf = n ∧ Hid ((∀ j, j < i → P j = true) ∧ I i wx))
    case atStart => exact ⟨0, rfl, by omega, (fun j hj => by omega), H0.out⟩
    case round =>
      obtain ⟨i, rfl, hi, HH⟩ := hrel
      by_cases hlt : i < n
      · obtain ⟨g', rfl⟩ : ∃ g', gk = g' + 1 := ⟨gk - 1, by omega⟩
        have d1 : decide ((i : Int) < (n : Int)) = true := decide_eq_true (by omega)
        have j0 : (0 : Int) ≤ (i : Int) := by omega
        have j1 : (i : Int) < (n : Int) := by omega
        rcases HR.out i wr HH.out.2 with h0 | ⟨g, off, rfl, hg, hc⟩
        · omega
        have k0 : wr.cell? ⟨g, off + i * 2, none⟩ = some (.string (x i).1) := hc i hlt 0 (by omega)
        have k1 : wr.cell? ⟨g, off + i * 2 + 1, none⟩ = some (.int .u32 (x i).2) := by have := hc i hlt 1 (by omega); rwa [← Nat.add_assoc] at this
        have hgn : g ≠ wr.heap.size := by omega
        clear hc
        unfold iEnc at HP
        cases hp : P i
        · have PC : Hid (∀ X, I i X → Calls Try.prog 57 #[.int .i64 (i : Int), .agg (iEnc (x i)), .pointer (some ⟨p, 0, none⟩)] X fun e Y => e = .returned (.bool false) ∧ Q Y) := fun X hX => (HP.out (by omega) i hlt X hX).mono fun e Y h => ⟨by rw [← hp]; exact h.1, h.2.2 hp⟩
          go_wp2_with (go_at_call 57; refine (PC.out _ (HI.out _ _ _ HH.out.2 (by first | exact Below.refl _ _ | go_grown))).mono ?_; rintro e w2 ⟨rfl, hq⟩)
          go_ret
          exact ⟨ret_bool (eachB_not hlt hp).symm, hq⟩
        · have PC : Hid (∀ X, I i X → Calls Try.prog 57 #[.int .i64 (i : Int), .agg (iEnc (x i)), .pointer (some ⟨p, 0, none⟩)] X fun e Y => e = .returned (.bool true) ∧ I (i + 1) Y) := fun X hX => (HP.out (by omega) i hlt X hX).mono fun e Y h => ⟨by rw [← hp]; exact h.1, h.2.1 hp⟩
          go_wp2_with (go_at_call 57; refine (PC.out _ (HI.out _ _ _ HH.out.2 (by first | exact Below.refl _ _ | go_grown))).mono ?_; rintro e w2 ⟨rfl, hq⟩)
          go_roundg g'
          case measure => omega
          case rel => exact ⟨i + 1, by simp, by omega, (fun j hj => by rcases Nat.lt_succ_iff_lt_or_eq.1 hj with h | h; exact HH.out.1 j h; rw [h]; exact hp), hq⟩
      · have d1 : decide ((i : Int) < (n : Int)) = false := decide_eq_false (by omega)
        go_wp2
        go_ret
        exact ⟨ret_bool (eachB_all hm fun j hj => HH.out.1 j (by omega)).symm, HQ.out _ _ HH.out.2⟩
  · have d0 : decide (most < (n : Int)) = true := decide_eq_true (by omega)
    go_enter Try.func56, Try.ntmps56
    go_wp2
    go_ret
    exact ⟨ret_bool (eachB_many (by omega)).symm, HQ.out _ _ H0.out⟩
set_option maxHeartbeats 4000000 in
set_option maxRecDepth 20000 in
theorem each_dsc (I : Nat → World → Prop) (Q : World → Prop) (P : Nat → Bool) (x : Nat → (Int × Int × List Int) × Sl) (a : Option Addr) (n c : Nat) (most : Int) (p : Nat) (w : World) (h0 : I 0 w) (hI : ∀ i X Y, I i X → Below X.heap.size X Y → I i Y)
    (hR : ∀ i X, I i X → n = 0 ∨ ∃ g off, a = some ⟨g, off, none⟩ ∧ g < X.heap.size ∧ ∀ j, j < n → ∀ m, m < 3 → X.cell? ⟨g, off + (j * 3 + m), none⟩ = (dEnc (x j))[m]?) (hQ : ∀ i X, I i X → Q X) (hn : n ≤ 140737488355328)
    (hP : (n : Int) ≤ most → ∀ i, i < n → ∀ X, I i X → Calls Try.prog 66 #[.int .i64 (i : Int), .agg (dEnc (x i)), .pointer (some ⟨p, 0, none⟩)] X fun e Y => e = .returned (.bool (P i)) ∧ (P i = true → I (i + 1) Y) ∧ (P i = false → Q Y)) :
    Calls Try.prog 65 #[.slice a n c, .int .i64 most, .func (.func 66) #[] #[.pointer (some ⟨p, 0, none⟩)]] w fun e w' => e = .returned (.bool (eachB n most P)) ∧ Q w' := by
  have HP : Hid ((n : Int) ≤ most → ∀ i, i < n → ∀ X, I i X → Calls Try.prog 66 #[.int .i64 (i : Int), .agg (dEnc (x i)), .pointer (some ⟨p, 0, none⟩)] X fun e Y => e = .returned (.bool (P i)) ∧ (P i = true → I (i + 1) Y) ∧ (P i = false → Q Y)) := hP
  have HR : Hid (∀ i X, I i X → n = 0 ∨ ∃ g off, a = some ⟨g, off, none⟩ ∧ g < X.heap.size ∧ ∀ j, j < n → ∀ m, m < 3 → X.cell? ⟨g, off + (j * 3 + m), none⟩ = (dEnc (x j))[m]?) := hR
  have HQ : Hid (∀ i X, I i X → Q X) := hQ
  have HI : Hid (∀ i X Y, I i X → Below X.heap.size X Y → I i Y) := hI
  have H0 : Hid (I 0 w) := h0
  clear hP hR hQ hI h0
  by_cases hm : (n : Int) ≤ most
  · have d0 : decide (most < (n : Int)) = false := decide_eq_false (by omega)
    go_enter Try.func65, Try.ntmps65
    go_wp2
    go_loopg [7, 8, 15] n (fun gf s7 s8 s15 wx => ∃ i : Nat, s15 = .int .i64 (i : Int) ∧ i + gf = n ∧ Hid ((∀ j, j < i → P j = true) ∧ I i wx))
    case atStart => exact ⟨0, rfl, by omega, (fun j hj => by omega), H0.out⟩
    case round =>
      obtain ⟨i, rfl, hi, HH⟩ := hrel
      by_cases hlt : i < n
      · obtain ⟨g', rfl⟩ : ∃ g', gk = g' + 1 := ⟨gk - 1, by omega⟩
        have d1 : decide ((i : Int) < (n : Int)) = true := decide_eq_true (by omega)
        have j0 : (0 : Int) ≤ (i : Int) := by omega
        have j1 : (i : Int) < (n : Int) := by omega
        rcases HR.out i wr HH.out.2 with h0 | ⟨g, off, rfl, hg, hc⟩
        · omega
        have k0 : wr.cell? ⟨g, off + i * 3, none⟩ = some (.int .i64 (x i).1.1) := hc i hlt 0 (by omega)
        have k1 : wr.cell? ⟨g, off + i * 3 + 1, none⟩ = some (.int .i64 (x i).1.2.1) := by have := hc i hlt 1 (by omega); rwa [← Nat.add_assoc] at this
        have k2 : wr.cell? ⟨g, off + i * 3 + 2, none⟩ = some (.slice (x i).2.a (x i).2.n (x i).2.c) := by have := hc i hlt 2 (by omega); rwa [← Nat.add_assoc] at this
        have hgn : g ≠ wr.heap.size := by omega
        clear hc
        unfold dEnc at HP
        cases hp : P i
        · have PC : Hid (∀ X, I i X → Calls Try.prog 66 #[.int .i64 (i : Int), .agg (dEnc (x i)), .pointer (some ⟨p, 0, none⟩)] X fun e Y => e = .returned (.bool false) ∧ Q Y) := fun X hX => (HP.out (by omega) i hlt X hX).mono fun e Y h => ⟨by rw [← hp]; exact h.1, h.2.2 hp⟩
          go_wp2_with (go_at_call 66; refine (PC.out _ (HI.out _ _ _ HH.out.2 (by first | exact Below.refl _ _ | go_grown))).mono ?_; rintro e w2 ⟨rfl, hq⟩)
          go_ret
          exact ⟨ret_bool (eachB_not hlt hp).symm, hq⟩
        · have PC : Hid (∀ X, I i X → Calls Try.prog 66 #[.int .i64 (i : Int), .agg (dEnc (x i)), .pointer (some ⟨p, 0, none⟩)] X fun e Y => e = .returned (.bool true) ∧ I (i + 1) Y) := fun X hX => (HP.out (by omega) i hlt X hX).mono fun e Y h => ⟨by rw [← hp]; exact h.1, h.2.1 hp⟩
          go_wp2_with (go_at_call 66; refine (PC.out _ (HI.out _ _ _ HH.out.2 (by first | exact Below.refl _ _ | go_grown))).mono ?_; rintro e w2 ⟨rfl, hq⟩)
          go_roundg g'
          case measure => omega
          case rel => exact ⟨i + 1, by simp, by omega, (fun j hj => by rcases Nat.lt_succ_iff_lt_or_eq.1 hj with h | h; exact HH.out.1 j h; rw [h]; exact hp), hq⟩
      · have d1 : decide ((i : Int) < (n : Int)) = false := decide_eq_false (by omega)
        go_wp2
        go_ret
        exact ⟨ret_bool (eachB_all hm fun j hj => HH.out.1 j (by omega)).symm, HQ.out _ _ HH.out.2⟩
  · have d0 : decide (most < (n : Int)) = true := decide_eq_true (by omega)
    go_enter Try.func65, Try.ntmps65
    go_wp2
    go_ret
    exact ⟨ret_bool (eachB_many (by omega)).symm, HQ.out _ _ H0.out⟩
set_option maxHeartbeats 4000000 in
set_option maxRecDepth 20000 in
theorem each_fix (I : Nat → World → Prop) (Q : World → Prop) (P : Nat → Bool) (x : Nat → Int × Int × Int × Int) (a : Option Addr) (n c : Nat) (most : Int) (p : Nat) (w : World) (h0 : I 0 w) (hI : ∀ i X Y, I i X → Below X.heap.size X Y → I i Y)
    (hR : ∀ i X, I i X → n = 0 ∨ ∃ g off, a = some ⟨g, off, none⟩ ∧ g < X.heap.size ∧ ∀ j, j < n → ∀ m, m < 4 → X.cell? ⟨g, off + (j * 4 + m), none⟩ = (xEnc (x j))[m]?) (hQ : ∀ i X, I i X → Q X) (hn : n ≤ 140737488355328)
    (hP : (n : Int) ≤ most → ∀ i, i < n → ∀ X, I i X → Calls Try.prog 69 #[.int .i64 (i : Int), .agg (xEnc (x i)), .pointer (some ⟨p, 0, none⟩)] X fun e Y => e = .returned (.bool (P i)) ∧ (P i = true → I (i + 1) Y) ∧ (P i = false → Q Y)) :
    Calls Try.prog 68 #[.slice a n c, .int .i64 most, .func (.func 69) #[] #[.pointer (some ⟨p, 0, none⟩)]] w fun e w' => e = .returned (.bool (eachB n most P)) ∧ Q w' := by
  have HP : Hid ((n : Int) ≤ most → ∀ i, i < n → ∀ X, I i X → Calls Try.prog 69 #[.int .i64 (i : Int), .agg (xEnc (x i)), .pointer (some ⟨p, 0, none⟩)] X fun e Y => e = .returned (.bool (P i)) ∧ (P i = true → I (i + 1) Y) ∧ (P i = false → Q Y)) := hP
  have HR : Hid (∀ i X, I i X → n = 0 ∨ ∃ g off, a = some ⟨g, off, none⟩ ∧ g < X.heap.size ∧ ∀ j, j < n → ∀ m, m < 4 → X.cell? ⟨g, off + (j * 4 + m), none⟩ = (xEnc (x j))[m]?) := hR
  have HQ : Hid (∀ i X, I i X → Q X) := hQ
  have HI : Hid (∀ i X Y, I i X → Below X.heap.size X Y → I i Y) := hI
  have H0 : Hid (I 0 w) := h0
  clear hP hR hQ hI h0
  by_cases hm : (n : Int) ≤ most
  · have d0 : decide (most < (n : Int)) = false := decide_eq_false (by omega)
    go_enter Try.func68, Try.ntmps68
    go_wp2
    go_loopg [7, 8, 15] n (fun gf s7 s8 s15 wx => ∃ i : Nat, s15 = .int .i64 (i : Int) ∧ i + gf = n ∧ Hid ((∀ j, j < i → P j = true) ∧ I i wx))
    case atStart => exact ⟨0, rfl, by omega, (fun j hj => by omega), H0.out⟩
    case round =>
      obtain ⟨i, rfl, hi, HH⟩ := hrel
      by_cases hlt : i < n
      · obtain ⟨g', rfl⟩ : ∃ g', gk = g' + 1 := ⟨gk - 1, by omega⟩
        have d1 : decide ((i : Int) < (n : Int)) = true := decide_eq_true (by omega)
        have j0 : (0 : Int) ≤ (i : Int) := by omega
        have j1 : (i : Int) < (n : Int) := by omega
        rcases HR.out i wr HH.out.2 with h0 | ⟨g, off, rfl, hg, hc⟩
        · omega
        have k0 : wr.cell? ⟨g, off + i * 4, none⟩ = some (.int .i64 (x i).1) := hc i hlt 0 (by omega)
        have k1 : wr.cell? ⟨g, off + i * 4 + 1, none⟩ = some (.int .i64 (x i).2.1) := by have := hc i hlt 1 (by omega); rwa [← Nat.add_assoc] at this
        have k2 : wr.cell? ⟨g, off + i * 4 + 2, none⟩ = some (.int .i64 (x i).2.2.1) := by have := hc i hlt 2 (by omega); rwa [← Nat.add_assoc] at this
        have k3 : wr.cell? ⟨g, off + i * 4 + 3, none⟩ = some (.int .i64 (x i).2.2.2) := by have := hc i hlt 3 (by omega); rwa [← Nat.add_assoc] at this
        have hgn : g ≠ wr.heap.size := by omega
        clear hc
        unfold xEnc at HP
        cases hp : P i
        · have PC : Hid (∀ X, I i X → Calls Try.prog 69 #[.int .i64 (i : Int), .agg (xEnc (x i)), .pointer (some ⟨p, 0, none⟩)] X fun e Y => e = .returned (.bool false) ∧ Q Y) := fun X hX => (HP.out (by omega) i hlt X hX).mono fun e Y h => ⟨by rw [← hp]; exact h.1, h.2.2 hp⟩
          go_wp2_with (go_at_call 69; refine (PC.out _ (HI.out _ _ _ HH.out.2 (by first | exact Below.refl _ _ | go_grown))).mono ?_; rintro e w2 ⟨rfl, hq⟩)
          go_ret
          exact ⟨ret_bool (eachB_not hlt hp).symm, hq⟩
        · have PC : Hid (∀ X, I i X → Calls Try.prog 69 #[.int .i64 (i : Int), .agg (xEnc (x i)), .pointer (some ⟨p, 0, none⟩)] X fun e Y => e = .returned (.bool true) ∧ I (i + 1) Y) := fun X hX => (HP.out (by omega) i hlt X hX).mono fun e Y h => ⟨by rw [← hp]; exact h.1, h.2.1 hp⟩
          go_wp2_with (go_at_call 69; refine (PC.out _ (HI.out _ _ _ HH.out.2 (by first | exact Below.refl _ _ | go_grown))).mono ?_; rintro e w2 ⟨rfl, hq⟩)
          go_roundg g'
          case measure => omega
          case rel => exact ⟨i + 1, by simp, by omega, (fun j hj => by rcases Nat.lt_succ_iff_lt_or_eq.1 hj with h | h; exact HH.out.1 j h; rw [h]; exact hp), hq⟩
      · have d1 : decide ((i : Int) < (n : Int)) = false := decide_eq_false (by omega)
        go_wp2
        go_ret
        exact ⟨ret_bool (eachB_all hm fun j hj => HH.out.1 j (by omega)).symm, HQ.out _ _ HH.out.2⟩
  · have d0 : decide (most < (n : Int)) = true := decide_eq_true (by omega)
    go_enter Try.func68, Try.ntmps68
    go_wp2
    go_ret
    exact ⟨ret_bool (eachB_many (by omega)).symm, HQ.out _ _ H0.out⟩
end Go.Proofs.Ytepgifapepaheaa
