/-
  Layer 11: the law's walk: extending is an order.
-/
import Derived.Test.YtgkfnfilomjphaaDoorVsh
import Derived.Test.YtgkfnfilomjphaaDoorVor
namespace Go.Proofs.YtgkfnfilomjphaaDoor
set_option linter.unusedVariables false
set_option linter.unusedSimpArgs false
open Go.ChangeShapes Go.WideShapes Go.ChangeAt Go.RowKit

set_option maxHeartbeats 16000000 in
theorem order_any (w : World) (hv : Vs w) (s : Sl) (L : List Tt) (h : LsR w s L) (a b c : Int) : Calls Tryd.prog 4 #[.slice s.a s.n s.c, .int .i64 a, .int .i64 b, .int .i64 c] w fun e w' => e = .returned (.bool true) ∧ Below w.heap.size w w' := by
  have SH := hid_of (shown_any w hv)
  have EX : ∀ i j X, Below w.heap.size w X → Calls Tryd.prog 9 #[.slice s.a s.n s.c, .int .i64 i, .int .i64 j] X fun e w' => e = .returned (.bool (fitB L i j)) ∧ Below X.heap.size X w' := fun i j X hX => extends_law X (hv.call hX) s L (h.call hX) i j
  have E1 := hid_of (EX a b)
  have E2 := hid_of (EX b a)
  have E3 := hid_of (EX b c)
  have E4 := hid_of (EX a c)
  have TR := fit_trans L a b c
  have AN : fitB L a b = true → fitB L b a = true → ∃ n : Nat, a = (n : Int) ∧ ∃ hn : n < L.length, (L[n].fm = 10 → a = b) := fun h1 h2 => by
    have hh := (fit_parts h1).2.1
    unfold hasB at hh
    simp only [Bool.and_eq_true, decide_eq_true_eq] at hh
    obtain ⟨n, rfl⟩ : ∃ n : Nat, a = (n : Int) := ⟨a.toNat, by omega⟩
    have hn : n < L.length := by omega
    exact ⟨n, rfl, hn, fun e => fit_anti L n b h1 h2 (by rw [tyD_at hn]; exact e)⟩
  have HH := hid_of h
  have hsl := h.li.len
  obtain ⟨q1, q2, q3⟩ := s
  dsimp only at hsl E1 E2 E3 E4
  subst hsl
  generalize fitB L a b = ab at *
  generalize fitB L b a = ba at *
  generalize fitB L b c = bc at *
  generalize fitB L a c = ac at *
  clear EX h hv
  cases ab
  · clear TR AN
    go_enter Tryd.func4, Tryd.ntmps4
    go_wp2_with (first
      | (have hx := B4; clear hx; go_at_call 9; refine (E4.out _ B4.out).mono ?_; rintro e w5 ⟨rfl, hB⟩; have B5 := hid_of (B4.out.trans (hB.mono B4.out.size)); clear hB; skip)
      | (have hx := B3; clear hx; go_at_call 9; refine (E3.out _ B3.out).mono ?_; rintro e w4 ⟨rfl, hB⟩; have B4 := hid_of (B3.out.trans (hB.mono B3.out.size)); clear hB)
      | (have hx := B2; clear hx; go_at_call 9; refine (E2.out _ B2.out).mono ?_; rintro e w3 ⟨rfl, hB⟩; have B3 := hid_of (B2.out.trans (hB.mono B2.out.size)); clear hB)
      | (have hx := B1; clear hx; go_at_call 9; refine (E1.out _ B1.out).mono ?_; rintro e w2 ⟨rfl, hB⟩; have B2 := hid_of (B1.out.trans (hB.mono B1.out.size)); clear hB)
      | (go_at_call 5; refine SH.out.mono ?_; rintro e w1 ⟨rfl, hB⟩; have B1 := hid_of hB; clear hB))
    go_ret
    exact ⟨rfl, B5.out⟩
  · rw [Bool.not_true, Bool.false_or] at TR
    cases ba
    · clear AN
      cases bc
      · clear TR
        go_enter Tryd.func4, Tryd.ntmps4
        go_wp2_with (first
          | (have hx := B4; clear hx; go_at_call 9; refine (E4.out _ B4.out).mono ?_; rintro e w5 ⟨rfl, hB⟩; have B5 := hid_of (B4.out.trans (hB.mono B4.out.size)); clear hB; skip)
          | (have hx := B3; clear hx; go_at_call 9; refine (E3.out _ B3.out).mono ?_; rintro e w4 ⟨rfl, hB⟩; have B4 := hid_of (B3.out.trans (hB.mono B3.out.size)); clear hB)
          | (have hx := B2; clear hx; go_at_call 9; refine (E2.out _ B2.out).mono ?_; rintro e w3 ⟨rfl, hB⟩; have B3 := hid_of (B2.out.trans (hB.mono B2.out.size)); clear hB)
          | (have hx := B1; clear hx; go_at_call 9; refine (E1.out _ B1.out).mono ?_; rintro e w2 ⟨rfl, hB⟩; have B2 := hid_of (B1.out.trans (hB.mono B1.out.size)); clear hB)
          | (go_at_call 5; refine SH.out.mono ?_; rintro e w1 ⟨rfl, hB⟩; have B1 := hid_of hB; clear hB))
        go_ret
        exact ⟨rfl, B5.out⟩
      · obtain rfl : ac = true := by simpa using TR
        clear TR
        go_enter Tryd.func4, Tryd.ntmps4
        go_wp2_with (first
          | (have hx := B4; clear hx; go_at_call 9; refine (E4.out _ B4.out).mono ?_; rintro e w5 ⟨rfl, hB⟩; have B5 := hid_of (B4.out.trans (hB.mono B4.out.size)); clear hB; skip)
          | (have hx := B3; clear hx; go_at_call 9; refine (E3.out _ B3.out).mono ?_; rintro e w4 ⟨rfl, hB⟩; have B4 := hid_of (B3.out.trans (hB.mono B3.out.size)); clear hB)
          | (have hx := B2; clear hx; go_at_call 9; refine (E2.out _ B2.out).mono ?_; rintro e w3 ⟨rfl, hB⟩; have B3 := hid_of (B2.out.trans (hB.mono B2.out.size)); clear hB)
          | (have hx := B1; clear hx; go_at_call 9; refine (E1.out _ B1.out).mono ?_; rintro e w2 ⟨rfl, hB⟩; have B2 := hid_of (B1.out.trans (hB.mono B1.out.size)); clear hB)
          | (go_at_call 5; refine SH.out.mono ?_; rintro e w1 ⟨rfl, hB⟩; have B1 := hid_of hB; clear hB))
        go_ret
        exact ⟨rfl, B5.out⟩
    · obtain ⟨n, rfl, hn, han⟩ := AN rfl rfl
      clear AN
      have hli : RdV w 7 ⟨q1, L.length, q3⟩ L.length (flat ttE L) := HH.out.li
      obtain ⟨g, off, hga, hgl, hcm⟩ := hli.elem (fun _ => rfl) n hn
      dsimp only at hga
      subst hga
      have c0 : w.cell? ⟨g, off + n * 7 + 0, none⟩ = some (.int .i64 L[n].fm) := hcm 0 _ rfl
      rw [Nat.add_zero] at c0
      have FC : Hid (∀ X, Below w.heap.size w X → X.cell? ⟨g, off + n * 7, none⟩ = some (.int .i64 L[n].fm)) := hid_of fun X hX => (hX.cell (p := ⟨g, off + n * 7, none⟩) hgl).trans c0
      have j0 : (0 : Int) ≤ (n : Int) := by omega
      have j1 : (n : Int) < (L.length : Int) := by omega
      have e0 : decide ((n : Int) ≥ 0) = true := decide_eq_true (by omega)
      have e1 : decide ((n : Int) < (L.length : Int)) = true := decide_eq_true (by omega)
      have e2 : decide (n < L.length) = true := decide_eq_true hn
      obtain ⟨fm, hfm⟩ : ∃ fm, fm = L[n].fm := ⟨_, rfl⟩
      rw [← hfm] at FC han
      clear hcm c0 hli hgl hfm hn
      by_cases h10 : fm = 10
      · have hab : (n : Int) = b := han h10
        have x1 : (fm == 10) = true := by simpa using h10
        have x2 : ((n : Int) != b) = false := by simpa using hab
        clear h10 hab han
        cases bc
        · clear TR
          go_enter Tryd.func4, Tryd.ntmps4
          go_wp2_with (first
            | (have hx := B4; clear hx; go_at_call 9; refine (E4.out _ B4.out).mono ?_; rintro e w5 ⟨rfl, hB⟩; have B5 := hid_of (B4.out.trans (hB.mono B4.out.size)); clear hB; have cf := FC.out _ B5.out)
            | (have hx := B3; clear hx; go_at_call 9; refine (E3.out _ B3.out).mono ?_; rintro e w4 ⟨rfl, hB⟩; have B4 := hid_of (B3.out.trans (hB.mono B3.out.size)); clear hB)
            | (have hx := B2; clear hx; go_at_call 9; refine (E2.out _ B2.out).mono ?_; rintro e w3 ⟨rfl, hB⟩; have B3 := hid_of (B2.out.trans (hB.mono B2.out.size)); clear hB)
            | (have hx := B1; clear hx; go_at_call 9; refine (E1.out _ B1.out).mono ?_; rintro e w2 ⟨rfl, hB⟩; have B2 := hid_of (B1.out.trans (hB.mono B1.out.size)); clear hB)
            | (go_at_call 5; refine SH.out.mono ?_; rintro e w1 ⟨rfl, hB⟩; have B1 := hid_of hB; clear hB))
          go_ret
          exact ⟨rfl, B5.out⟩
        · obtain rfl : ac = true := by simpa using TR
          clear TR
          go_enter Tryd.func4, Tryd.ntmps4
          go_wp2_with (first
            | (have hx := B4; clear hx; go_at_call 9; refine (E4.out _ B4.out).mono ?_; rintro e w5 ⟨rfl, hB⟩; have B5 := hid_of (B4.out.trans (hB.mono B4.out.size)); clear hB; have cf := FC.out _ B5.out)
            | (have hx := B3; clear hx; go_at_call 9; refine (E3.out _ B3.out).mono ?_; rintro e w4 ⟨rfl, hB⟩; have B4 := hid_of (B3.out.trans (hB.mono B3.out.size)); clear hB)
            | (have hx := B2; clear hx; go_at_call 9; refine (E2.out _ B2.out).mono ?_; rintro e w3 ⟨rfl, hB⟩; have B3 := hid_of (B2.out.trans (hB.mono B2.out.size)); clear hB)
            | (have hx := B1; clear hx; go_at_call 9; refine (E1.out _ B1.out).mono ?_; rintro e w2 ⟨rfl, hB⟩; have B2 := hid_of (B1.out.trans (hB.mono B1.out.size)); clear hB)
            | (go_at_call 5; refine SH.out.mono ?_; rintro e w1 ⟨rfl, hB⟩; have B1 := hid_of hB; clear hB))
          go_ret
          exact ⟨rfl, B5.out⟩
      · have x1 : (fm == 10) = false := by simpa using h10
        clear h10 han
        cases bc
        · clear TR
          go_enter Tryd.func4, Tryd.ntmps4
          go_wp2_with (first
            | (have hx := B4; clear hx; go_at_call 9; refine (E4.out _ B4.out).mono ?_; rintro e w5 ⟨rfl, hB⟩; have B5 := hid_of (B4.out.trans (hB.mono B4.out.size)); clear hB; have cf := FC.out _ B5.out)
            | (have hx := B3; clear hx; go_at_call 9; refine (E3.out _ B3.out).mono ?_; rintro e w4 ⟨rfl, hB⟩; have B4 := hid_of (B3.out.trans (hB.mono B3.out.size)); clear hB)
            | (have hx := B2; clear hx; go_at_call 9; refine (E2.out _ B2.out).mono ?_; rintro e w3 ⟨rfl, hB⟩; have B3 := hid_of (B2.out.trans (hB.mono B2.out.size)); clear hB)
            | (have hx := B1; clear hx; go_at_call 9; refine (E1.out _ B1.out).mono ?_; rintro e w2 ⟨rfl, hB⟩; have B2 := hid_of (B1.out.trans (hB.mono B1.out.size)); clear hB)
            | (go_at_call 5; refine SH.out.mono ?_; rintro e w1 ⟨rfl, hB⟩; have B1 := hid_of hB; clear hB))
          go_ret
          exact ⟨rfl, B5.out⟩
        · obtain rfl : ac = true := by simpa using TR
          clear TR
          go_enter Tryd.func4, Tryd.ntmps4
          go_wp2_with (first
            | (have hx := B4; clear hx; go_at_call 9; refine (E4.out _ B4.out).mono ?_; rintro e w5 ⟨rfl, hB⟩; have B5 := hid_of (B4.out.trans (hB.mono B4.out.size)); clear hB; have cf := FC.out _ B5.out)
            | (have hx := B3; clear hx; go_at_call 9; refine (E3.out _ B3.out).mono ?_; rintro e w4 ⟨rfl, hB⟩; have B4 := hid_of (B3.out.trans (hB.mono B3.out.size)); clear hB)
            | (have hx := B2; clear hx; go_at_call 9; refine (E2.out _ B2.out).mono ?_; rintro e w3 ⟨rfl, hB⟩; have B3 := hid_of (B2.out.trans (hB.mono B2.out.size)); clear hB)
            | (have hx := B1; clear hx; go_at_call 9; refine (E1.out _ B1.out).mono ?_; rintro e w2 ⟨rfl, hB⟩; have B2 := hid_of (B1.out.trans (hB.mono B1.out.size)); clear hB)
            | (go_at_call 5; refine SH.out.mono ?_; rintro e w1 ⟨rfl, hB⟩; have B1 := hid_of hB; clear hB))
          go_ret
          exact ⟨rfl, B5.out⟩
end Go.Proofs.YtgkfnfilomjphaaDoor
