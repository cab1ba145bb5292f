/-
  Layer 8, the program's: remark and blanks, of every text.
-/
import Derived.Test.YtllhcjmabhempaaDoorWrd
namespace Go.Proofs.YtllhcjmabhempaaDoor
set_option linter.unusedVariables false
set_option linter.unusedSimpArgs false
open Go.ChangeShapes Go.WideShapes Go.ChangeAt Go.RowKit

theorem opens_two {l : Bs} (h : opens l = true) : ∃ r, l = 40 :: 42 :: r := by
  match l, h with
  | a :: b :: r, h =>
    simp only [opens, Bool.and_eq_true, beq_iff_eq] at h
    exact ⟨r, by rw [h.1, h.2]⟩
theorem remN_none {l : Bs} (h : remP 0 l = none) : remN l = 0 := by unfold remN; rw [h]; split <;> rfl
theorem remN_some {l : Bs} {n : Nat} (ho : opens l = true) (h : remP 0 l = some n) : remN l = n := by unfold remN; rw [h, ho]; rfl
theorem remS_zero (l : Bs) : remS 0 0 l 0 = remP 0 l := by unfold remS; rw [pend0]; simp [upTo]
theorem remS_end {d : Nat} {a : Int} {l : Bs} {pos : Nat} (h : ¬ pos < l.length) : remS d a l pos = none := by
  unfold remS; rw [List.drop_of_length_le (by omega), List.append_nil, remP_nil]; rfl
/-- What holds within the search for a remark's end. -/
def RemI (l : Bs) (d : Nat) (a : Int) (pos : Nat) : Prop := remP 0 l = remS d a l pos ∧ d ≤ pos ∧ (1 ≤ pos ∨ a = 0) ∧ (d = 0 → pos = 0 ∧ a = 0 ∨ pos = 1 ∧ a = 40)
set_option maxRecDepth 20000 in
theorem remark_any (l : Bs) (hl : l.length ≤ 1000000000) (w : World) : Calls Tryd.prog 18 #[.string (bs l)] w fun e w' => e = .returned (.int .i64 ((remN l : Nat) : Int)) ∧ Below w.heap.size w w' := by
  have hz := bs_size l
  have OP := opens_any l w
  cases ho : opens l
  · have hn : remN l = 0 := by unfold remN; rw [ho]; rfl
    rw [ho] at OP
    rw [hn]
    go_enter Tryd.func18, Tryd.ntmps18
    go_wp2
    go_step3
    go_wp2_with (go_at_call 19; refine OP.mono ?_; rintro e W' ⟨rfl, hw⟩; rw [hw]; clear hw)
    (try rw [Exit.noGoto_ret])
    go_ret
    exact ⟨rfl, Below.refl _ _⟩
  · rw [ho] at OP
    obtain ⟨r0, hr0⟩ := opens_two ho
    have HO : Hid (opens l = true) := ho
    have h0 : ∀ h : 0 < l.length, l[0].toNat = 40 := fun h => by subst hr0; rfl
    have h1 : ∀ h : 1 < l.length, l[1].toNat = 42 := fun h => by subst hr0; rfl
    have hln : 2 ≤ l.length := by rw [hr0]; simp
    clear hr0 ho
    go_enter Tryd.func18, Tryd.ntmps18
    go_wp2
    go_step3
    go_wp2_with (go_at_call 19; refine OP.mono ?_; rintro e W' ⟨rfl, hw⟩; rw [hw]; clear hw)
    go_step3
    go_wp2
    go_loopg [3, 4, 5] l.length (fun gf s3 s4 s5 wx => ∃ (pos d : Nat) (a : Int), s3 = .int .i64 0 ∧ s4 = .int .i64 (d : Int) ∧ s5 = .int .i32 a ∧ pos ≤ l.length ∧ l.length ≤ pos + gf ∧ wx.heap[w.heap.size]? = some (.stringIter (bs l) pos) ∧ Below w.heap.size w wx ∧ RemI l d a pos)
    case atStart => exact ⟨0, 0, 0, rfl, rfl, rfl, by omega, by omega, World.iter_heap w (bs l) 0, (Below.refl _ w).alloc (Nat.le_refl _) _, ⟨(remS_zero l).symm, Nat.le_refl _, .inr rfl, fun _ => .inl ⟨rfl, rfl⟩⟩⟩
    case round =>
      obtain ⟨pos, d, a, rfl, rfl, rfl, hp, hp2, hit, hbw, HS⟩ := hrel
      by_cases hlt : pos < l.length
      · obtain ⟨g', rfl⟩ : ∃ g', gk = g' + 1 := ⟨gk - 1, by omega⟩
        obtain ⟨R, K, hnx, hK1, hK2, hR, hc⟩ := next_at l pos w.heap.size wr hit hlt
        have hit2 := Lib.iterAt_heap wr w.heap.size (bs l) pos (pos + K) hit
        have hbw2 := Lib.below_iterAt hbw (k := w.heap.size) (Nat.le_refl _) (bs l) (pos + K)
        obtain ⟨W, hWd⟩ : ∃ W, wr.iterAt w.heap.size (bs l) (pos + K) = W := ⟨_, rfl⟩
        rw [hWd] at hnx hit2 hbw2
        clear hit hbw hWd
        have hdp : d ≤ pos := HS.2.1
        -- the plain step
        have PL : ¬ (a = 40 ∧ R = 42) → ¬ (a = 42 ∧ R = 41) → RemI l d R (pos + K) := fun n1 n2 => by
          obtain ⟨e1, e2, e3, e4⟩ := HS
          refine ⟨?_, by omega, .inl (by omega), fun hd0 => ?_⟩
          · rcases hc with ⟨q1, q2, q3⟩ | ⟨q1, q2, q3⟩
            · rw [e1, q2, q1]
              exact remS_plain hlt (by omega) (fun h => n1 ⟨h.1, by omega⟩) (fun h => n2 ⟨h.1, by omega⟩)
            · obtain ⟨K', rfl⟩ : ∃ K', K = K' + 1 := ⟨K - 1, by omega⟩
              rw [e1]
              exact remS_high K' hK2 (by omega) q3 R (by omega)
          · rcases e4 hd0 with ⟨r1, r2⟩ | ⟨r1, r2⟩
            · subst r1
              have := h0 hlt
              rcases hc with ⟨q1, q2, q3⟩ | ⟨q1, q2, q3⟩ <;> omega
            · subst r1
              have := h1 hlt
              exfalso
              rcases hc with ⟨q1, q2, q3⟩ | ⟨q1, q2, q3⟩
              · exact n1 ⟨r2, by omega⟩
              · omega
        have low : R < 128 → R = l[pos].toNat ∧ K = 1 := fun h => by rcases hc with ⟨q1, q2, q3⟩ | ⟨q1, q2, q3⟩ <;> omega
        clear hc h0 h1
        by_cases a40 : a = 40
        · subst a40
          by_cases r42 : R = 42
          · subst r42
            obtain ⟨l1, rfl⟩ := low (by omega)
            have NX : RemI l (d + 1) 0 (pos + 1) := by
              obtain ⟨e1, e2, e3, e4⟩ := HS
              exact ⟨by rw [e1]; exact remS_open hlt (by omega) l1.symm, by omega, .inr rfl, fun h => by omega⟩
            clear PL low HS l1
            go_wp2
            go_roundg g'
            case measure => omega
            case rel => exact ⟨pos + 1, d + 1, 0, rfl, by simp, rfl, by omega, by omega, hit2, hbw2, NX⟩
          · have NX := PL (by omega) (by omega)
            have g1 : ((R : Int) == 42) = false := by simp; omega
            clear PL low HS
            go_wp2
            go_roundg g'
            case measure => omega
            case rel => exact ⟨pos + K, d, R, rfl, rfl, rfl, by omega, by omega, hit2, hbw2, NX⟩
        · by_cases a42 : a = 42
          · subst a42
            by_cases r41 : R = 41
            · subst r41
              obtain ⟨l1, rfl⟩ := low (by omega)
              by_cases d1 : d = 1
              · subst d1
                have hN : remN l = pos + 1 := by
                  obtain ⟨e1, e2, e3, e4⟩ := HS
                  exact remN_some HO.out (by rw [e1]; exact remS_last hlt (by omega) l1.symm (by omega))
                have HN : Hid (remN l = pos + 1) := hN
                clear PL low HS l1 hN
                go_wp2
                (try rw [Exit.noGoto_ret])
                go_ret
                exact ⟨ret_int (by rw [HN.out]; simp), hbw2⟩
              · have hd2 : 2 ≤ d := by
                  obtain ⟨e1, e2, e3, e4⟩ := HS
                  rcases Nat.eq_zero_or_pos d with h | h
                  · have := e4 h; omega
                  · omega
                have NX : RemI l (d - 1) 0 (pos + 1) := by
                  obtain ⟨e1, e2, e3, e4⟩ := HS
                  exact ⟨by rw [e1]; exact remS_close hlt (by omega) l1.symm hd2, by omega, .inr rfl, fun h => by omega⟩
                obtain ⟨d', rfl⟩ : ∃ d', d = d' + 2 := ⟨d - 2, by omega⟩
                have g1 : (((d' + 2 : Nat) : Int) - 1 == 0) = false := by simp; omega
                clear PL low HS l1
                go_wp2
                go_roundg g'
                case measure => omega
                case rel => exact ⟨pos + 1, d' + 2 - 1, 0, rfl, by simp; omega, rfl, by omega, by omega, hit2, hbw2, NX⟩
            · have NX := PL (by omega) (by omega)
              have g1 : ((R : Int) == 41) = false := by simp; omega
              clear PL low HS
              go_wp2
              go_roundg g'
              case measure => omega
              case rel => exact ⟨pos + K, d, R, rfl, rfl, rfl, by omega, by omega, hit2, hbw2, NX⟩
          · have NX := PL (by omega) (by omega)
            have g1 : (a == 40) = false := by simpa using a40
            have g2 : (a == 42) = false := by simpa using a42
            clear PL low HS
            go_wp2
            go_roundg g'
            case measure => omega
            case rel => exact ⟨pos + K, d, R, rfl, rfl, rfl, by omega, by omega, hit2, hbw2, NX⟩
      · have hnx := next_end l pos w.heap.size wr hit hlt
        have hN : remN l = 0 := remN_none (by rw [HS.1]; exact remS_end hlt)
        have HN : Hid (remN l = 0) := hN
        clear h0 h1 hN
        go_wp2
        (try rw [Exit.noGoto_ret])
        go_ret
        exact ⟨ret_int (by rw [HN.out]; rfl), hbw⟩
set_option maxRecDepth 20000 in
theorem blanks_any (l : Bs) (hl : l.length ≤ 1000000000) (w : World) : Calls Tryd.prog 12 #[.string (bs l)] w fun e w' => e = .returned (.int .i64 ((skip l : Nat) : Int)) ∧ Below w.heap.size w w' := by
  have hz := bs_size l
  go_enter Tryd.func12, Tryd.ntmps12
  go_wp2
  go_loopg [3] l.length (fun gf s3 wx => ∃ b : Nat, s3 = .int .i64 (b : Int) ∧ b ≤ l.length ∧ l.length ≤ b + gf ∧ Below w.heap.size w wx ∧ Hid (skip l = b + skip (l.drop b)))
  case atStart => exact ⟨0, rfl, by omega, by omega, Below.refl _ _, (by simp : skip l = 0 + skip (l.drop 0))⟩
  case round =>
    obtain ⟨b, rfl, hb1, hb2, hbw, HS⟩ := hrel
    have s1 := slice_l l b hb1
    have PB := plainBlanks_any (l.drop b) (by rw [List.length_drop]; omega)
    have ht : ((l.drop b).takeWhile blk).length ≤ l.length - b := by have := (List.takeWhile_sublist blk (l := l.drop b)).length_le; rwa [List.length_drop] at this
    have htw := skip_tw (l.drop b)
    have hz0 := skip_zero (l := l.drop b)
    obtain ⟨p, hp⟩ : ∃ p, ((l.drop b).takeWhile blk).length = p := ⟨_, rfl⟩
    rw [hp] at PB ht htw hz0
    rw [List.drop_drop] at htw
    have s2 := slice_lz l (b + p) (by omega) ((b : Int) + (p : Int)) (by simp)
    have RM := remark_any (l.drop (b + p)) (by rw [List.length_drop]; omega)
    have hr := remN_le (l.drop (b + p))
    rw [List.length_drop] at hr
    have hrm := skip_rem (l := l.drop (b + p))
    obtain ⟨q, hq⟩ : ∃ q, remN (l.drop (b + p)) = q := ⟨_, rfl⟩
    rw [hq] at RM hr hrm
    rw [List.drop_drop] at hrm
    have NX : Hid (skip l = (b + (p + q)) + skip (l.drop (b + (p + q)))) := show _ = _ by
      have := HS.out
      by_cases h : q = 0
      · subst h; rw [Nat.add_zero]; omega
      · have := hrm h
        rw [show b + (p + q) = b + p + q by omega]; omega
    have Z : p + q = 0 → Hid (skip l = b) := fun h => show _ = _ by
      obtain rfl : p = 0 := by omega
      obtain rfl : q = 0 := by omega
      have := HS.out
      rw [hz0 rfl (by rw [Nat.add_zero] at hq; exact hq)] at this
      omega
    clear htw hrm hz0 hp hq HS
    have PB : Hid (∀ w, Calls Tryd.prog 17 #[.string (bs (l.drop b))] w fun e w' => e = .returned (.int .i64 (p : Int)) ∧ Below w.heap.size w w') := PB
    have RM : Hid (∀ w, Calls Tryd.prog 18 #[.string (bs (l.drop (b + p)))] w fun e w' => e = .returned (.int .i64 (q : Int)) ∧ Below w.heap.size w w') := RM
    by_cases hpq : p + q = 0
    · have ZZ : Hid (skip l = b) := Z hpq
      clear Z
      obtain rfl : p = 0 := by omega
      obtain rfl : q = 0 := by omega
      go_wp2_with (first | (go_at_call 17; refine (PB.out _).mono ?_; rintro e w1 ⟨rfl, hb1⟩) | (go_at_call 18; refine (RM.out _).mono ?_; rintro e w2 ⟨rfl, hb2⟩))
      go_ret
      exact ⟨ret_int (by rw [ZZ.out]), Below.call (Below.call hbw hb1 (Nat.le_refl _)) hb2 (Nat.le_refl _)⟩
    · obtain ⟨g', rfl⟩ : ∃ g', gk = g' + 1 := ⟨gk - 1, by omega⟩
      have g1 : (((p : Int) + (q : Int)) == 0) = false := by simp; omega
      clear Z
      go_wp2_with (first | (go_at_call 17; refine (PB.out _).mono ?_; rintro e w1 ⟨rfl, hb1⟩) | (go_at_call 18; refine (RM.out _).mono ?_; rintro e w2 ⟨rfl, hb2⟩))
      go_roundg g'
      case measure => omega
      case rel => exact ⟨b + (p + q), by simp, by omega, by omega, Below.call (Below.call hbw hb1 (Nat.le_refl _)) hb2 (Nat.le_refl _), NX⟩
end Go.Proofs.YtllhcjmabhempaaDoor
