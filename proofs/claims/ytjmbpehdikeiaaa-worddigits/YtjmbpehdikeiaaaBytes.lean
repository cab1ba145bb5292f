/-
  The walk of the law WordBytes: for every row of bytes within the reach, every place and every word it returns true, and nothing that was there has turned.
-/
import Derived.Test.YtjmbpehdikeiaaaPuts
namespace Go.Proofs.Ytjmbpehdikeiaaa
open Go.ChangeShapes Go.WideShapes Go.ChangeAt Go.RowKit

theorem RdB.below {w w' : World} {a : Option Addr} {len : Nat} {f : Nat → Int} (h : RdB w a len f) (hb : Below w.heap.size w w') : RdB w' a len f := by
  refine ⟨h.1, h.2.imp id fun ⟨b, off, ha, hc⟩ => ⟨b, off, ha, fun i hi => ⟨?_, (hc i hi).2⟩⟩⟩
  have := World.block_lt_of_cell? _ _ (hc i hi).1
  exact (hb.cell (p := ⟨b, off + i, none⟩) this).trans (hc i hi).1

theorem four_of {w : World} {base : Nat} {x : Value} {v : Int} (h : w.ownsRow base 5 1 x 4 (bytesOf v 4)) : ∃ g c, x = .slice (some ⟨g, 0, none⟩) 4 c ∧ ∀ j, j < 4 → w.cell? ⟨g, j, none⟩ = some (.int .u8 (byteOf v j)) := by
  rcases h.2 with ⟨_, h0⟩ | ⟨g, cap, cur, rfl, _, _⟩
  · omega
  · refine ⟨g, cap, rfl, fun j hj => ?_⟩
    rw [h.cellAt j (by omega)]
    have : j = 0 ∨ j = 1 ∨ j = 2 ∨ j = 3 := by omega
    rcases this with rfl | rfl | rfl | rfl <;> rfl

/-- A row of bytes as cells. -/
def rowOf (f : Nat → Int) (len : Nat) : List Value := (List.range len).map fun i => .int .u8 (f i)
/-- What lies in the copy ahead of Put: the bytes, then noughts. -/
def baseL (len : Nat) (f : Nat → Int) (i : Nat) : Int := if i < len then f i else 0
theorem spliced {w : World} {g len : Nat} {f : Nat → Int} {Z : List Value} (hZ : Z = List.replicate (len + 8) (.int .u8 0))
    (h : w.heap[g]? = some (.cells (splice Z 0 (rowOf f len)).toArray 5 (0, 0))) :
    (∀ i, i < len + 8 → w.cell? ⟨g, i, none⟩ = some (.int .u8 (baseL len f i))) ∧ ∀ i, w.frozen? ⟨g, i, none⟩ = false := by
  refine ⟨fun i hi => ?_, fun i => ?_⟩
  · rw [cell_of_row w g i _ 5 (0, 0) h, hZ]
    simp only [splice, baseL, rowOf]
    by_cases hl : i < len
    · simp [hl, List.getElem?_append]
    · simp [hl, List.getElem?_append]
      have : i - len = 0 ∨ i - len = 1 ∨ i - len = 2 ∨ i - len = 3 ∨ i - len = 4 ∨ i - len = 5 ∨ i - len = 6 ∨ i - len = 7 := by omega
      rcases this with e | e | e | e | e | e | e | e <;> rw [e] <;> rfl
  · simp [World.frozen?, h]

theorem made_of {w : World} {base g n : Nat} (h : w.ownsRow base 5 1 (.slice (some ⟨g, 0, none⟩) n n) n (madeCells (Value.int .u8 0).cells (n * 1)).toList) :
    w.heap[g]? = some (.cells (List.replicate n (.int .u8 0)).toArray 5 (0, 0)) := by
  rcases h.2 with ⟨h0, _⟩ | ⟨g', cap, cur, hv, _, hg, _, _, hs, ht⟩
  · simp at h0
  · simp at hv
    obtain ⟨rfl, rfl⟩ := hv
    have e : cur = (List.replicate n (.int .u8 0)).toArray := by
      rw [List.take_of_length_le (by simp; omega)] at ht
      apply Array.ext'
      rw [ht, Nat.mul_one]
      simpa [Value.cells] using toList_madeCells_one (.int .u8 0) n
    rw [hg, e]
theorem copy_src {w : World} {a : Option Addr} {len : Nat} {f : Nat → Int} (h : RdB w a len f) (h0 : 0 < (rowOf f len).length) : ∃ ad, a = some ad ∧ ∀ j u, (rowOf f len)[j]? = some u → w.cell? (ad.add j) = some u := by
  have hl : 0 < len := by simpa [rowOf] using h0
  rcases h.2 with h1 | ⟨b, off, rfl, hc⟩
  · omega
  · refine ⟨_, rfl, fun j u hj => ?_⟩
    have hj' : j < len := by
      rcases Nat.lt_or_ge j len with h | h
      · exact h
      · simp [rowOf, List.getElem?_eq_none (show (List.range len).length ≤ j by simpa using h)] at hj
    have e : u = .int .u8 (f j) := by simp [rowOf, hj'] at hj; exact hj.symm
    rw [e, ← (hc j hj').1]
    by_cases hj0 : j = 0
    · subst hj0; simp [Addr.add]
    · simp [Addr.add, hj0]
theorem row_one (f : Nat → Int) (len : Nat) : ∀ u ∈ rowOf f len, u.oneCell' = true := by
  intro u hu
  simp [rowOf] at hu
  obtain ⟨i, _, rfl⟩ := hu
  rfl
theorem size5 : (Try.prog.info? 5).map (·.size) = some 1 := by kernel_rfl

/-- What lies in the copy behind Put, its spare room too. -/
def behindL (len : Nat) (f : Nat → Int) (at_ v : Int) (i : Nat) : Int := if i < len then putL len (baseL len f) at_ v i else 0

theorem behind_of {w3 w4 : World} {g len : Nat} {f : Nat → Int} {at_ v : Int} (h : ∀ i, i < len + 8 → w3.cell? ⟨g, i, none⟩ = some (.int .u8 (baseL len f i)))
    (p1 : ∀ i, i < len → w4.cell? ⟨g, 0 + i, none⟩ = some (.int .u8 (putL len (baseL len f) at_ v i))) (p2 : ∀ i, i < 0 ∨ 0 + len ≤ i → w4.cell? ⟨g, i, none⟩ = w3.cell? ⟨g, i, none⟩) :
    ∀ i, i < len + 8 → w4.cell? ⟨g, i, none⟩ = some (.int .u8 (behindL len f at_ v i)) := by
  intro i hi
  unfold behindL
  by_cases hl : i < len
  · rw [if_pos hl, ← p1 i hl, Nat.zero_add]
  · rw [if_neg hl, p2 i (by omega), h i hi, baseL, if_neg hl]
theorem still_of {w4 w5 : World} {g n : Nat} {L : Nat → Int} (hn : 0 < n) (h : ∀ i, i < n → w4.cell? ⟨g, i, none⟩ = some (.int .u8 (L i))) (hb : Below w4.heap.size w4 w5) :
    ∀ i, i < n → w5.cell? ⟨g, i, none⟩ = some (.int .u8 (L i)) := by
  intro i hi
  have := World.block_lt_of_cell? _ _ (h 0 hn)
  exact (hb.cell (p := ⟨g, i, none⟩) this).trans (h i hi)

theorem copy_runs {w w2 : World} {g B : Nat} {a : Option Addr} {len cap : Nat} {f : Nat → Int} (hr : RdB w2 a len f) (hg : w2.heap[g]? = some (.cells (List.replicate (len + 8) (.int .u8 0)).toArray 5 (0, 0))) (hb : Below B w w2) (hBg : B ≤ g) :
    ∃ w3, (Builtin.copy_ #[35, 35] 3 #[.slice (some ⟨g, 0, none⟩) (len + 8) (len + 8), .slice a len cap]).run Try.prog w2 = .ok (.int .i64 (len : Int)) w3 ∧
      Hid ((∀ i, i < len + 8 → w3.cell? ⟨g, i, none⟩ = some (.int .u8 (baseL len f i))) ∧ ∀ i, w3.frozen? ⟨g, i, none⟩ = false) ∧ Below B w w3 := by
  by_cases h0 : len = 0
  · subst h0
    refine ⟨w2, run_copy_none w2 35 35 3 5 _ _ _ _ _ _ Try.underlying35 size5 (by rfl), spliced rfl ?_, hb⟩
    simpa [splice, rowOf] using hg
  · obtain ⟨ad, rfl, hsrc⟩ := copy_src hr (by simp [rowOf]; omega)
    have hl : (rowOf f len).length = len := by simp [rowOf]
    have e := run_copy_row (P := Try.prog) w2 35 35 3 5 g 0 (len + 8) (len + 8) ad len cap _ 5 (rowOf f len) Try.underlying35 size5 hg (by rw [hl]; exact (Nat.min_eq_left (by omega)).symm) hsrc (by simp [rowOf]) (row_one f len)
    rw [hl] at e
    refine ⟨_, e, spliced rfl ?_, below_setRow hb hBg _⟩
    simpa [splice, hl] using setRow_heap w2 g _ _ 5 _ hg

set_option maxHeartbeats 1000000 in
theorem bytes_any (a : Option Addr) (len cap : Nat) (f : Nat → Int) (at_ v : Int) (w : World) (hr : RdB w a len f) (hreach : len ≤ 140737488351232) (a0 : -9223372036854775808 ≤ at_) (a1 : at_ ≤ 9223372036854775807) (v0 : 0 ≤ v) (v1 : v ≤ 4294967295) :
    Calls Try.prog 6 #[.slice a len cap, .int .i64 at_, .int .u32 v] w fun e w' => e = .returned (.bool true) ∧ Below w.heap.size w w' := by
  obtain ⟨i0, hi, hz0, hz1, hz2⟩ := info_parts info5
  go_enter Try.func6, Try.ntmps6
  go_wp2_with (first
    | (go_at_call 9; refine (shown_any _).mono ?_; rintro e w' ⟨rfl, hw⟩; obtain rfl := hw.symm; clear hw)
    | (go_at_call 26; refine (get_any _ _ _ f _ _ hr).mono ?_; rintro e w1 ⟨rfl, hb1⟩; have hr1 := hr.below hb1)
    | (go_at_call 27; refine (rget_any _ _ _ f _ _ hr1 ⟨a0, a1⟩).mono ?_; rintro e w' ⟨rfl, hw⟩; obtain rfl := hw.symm; clear hw)
    | (at_make; refine wpList_make_full _ rfl _ _ 35 rfl w.heap.size 5 i0 (.int .u8 0) 1 Try.underlying35 hi hz0 hz1 .i64 .i64 _ _ (len + 8) rfl rfl (by omega) (by omega) (by rw [hz2]; omega) (by unfold maxLen; omega) hb1.size ?_; intro w2 hown2 hgrow2; have hb2 : Below w.heap.size w w2 := hb1.grown hgrow2 hb1.size (by simp); have hr2 := hr.below hb2; obtain ⟨w3, hrun, HC3, hb3⟩ := copy_runs (cap := cap) hr2 (made_of hown2) hb2 hb1.size; clear hown2 hgrow2)
    | (go_at_call 28; refine (put_any w1.heap.size 0 len _ (baseL len f) at_ v _ (by unfold maxLen; omega) (fun i hi => by rw [Nat.zero_add]; exact HC3.out.1 i (by omega)) (fun i hi => HC3.out.2 _)).mono ?_; rintro e w4 ⟨rfl, p1, p2, p3, p4⟩; have HL4 : Hid _ := behind_of HC3.out.1 p1 p2; have hb4 : Below w.heap.size w w4 := hb3.trans (p3.mono hb1.size); clear p1 p2 p3 p4)
    | (go_at_call 29; refine (rword_any _ _ v0 v1).mono ?_; rintro e w5 ⟨x, rfl, hown5, hb5⟩; have HL5 : Hid _ := still_of (by omega) HL4.out hb5; have hb6 : Below w.heap.size w w5 := hb4.trans (hb5.mono hb4.size); have hr5 := hr.below hb6; obtain ⟨g5, c5, hx5, hc5⟩ := four_of hown5; subst hx5; clear hown5))
  go_loop [15] (fun i => ∃ k : Nat, k ≤ len + 8 ∧ i = .int .i64 k) (fun i => len + 8 - (intOf i).toNat)
  case atStart => exact ⟨0, Nat.zero_le _, rfl⟩
  case round =>
    obtain ⟨k, hk, rfl⟩ := hrel
    clear hr hr1 hr2 hb1 hb2 hb3 hb4 hb5 HC3 HL4 hi hz0 hz1 hz2 hrun
    by_cases hlt : k < len + 8
    · have hcl := HL5.out k hlt
      by_cases hf : fits len at_ = true
      · have hf' := hf
        simp only [fits, decide_eq_true_eq] at hf'
        obtain ⟨p, rfl⟩ := Int.eq_ofNat_of_zero_le hf'.1
        by_cases hl : k < len
        · obtain ⟨b, off, rfl, hcb⟩ : ∃ b off, a = some ⟨b, off, none⟩ ∧ w5.cell? ⟨b, off + k, none⟩ = some (.int .u8 (f k)) := by
            rcases hr5.2 with h | ⟨b, off, h, hc⟩
            · omega
            · exact ⟨b, off, h, (hc k hl).1⟩
          by_cases hp : p ≤ k ∧ k < p + 4
          · have hc4 := hc5 (k - p) (by omega)
            rw [show behindL len f p v k = byteOf v (k - p) by rw [behindL, if_pos hl, putL, if_pos hf, partL, Int.toNat_natCast, if_pos hp]] at hcl
            obtain ⟨hp1, hp2⟩ := hp
            clear hc5 HL5 hr5
            go_wp2
            go_round
            case rel => exact ⟨k + 1, by omega, by go_num⟩
            case measure => simp [intOf]; omega
          · rw [show behindL len f p v k = f k by rw [behindL, if_pos hl, putL, if_pos hf, partL, Int.toNat_natCast, if_neg hp, baseL, if_pos hl]] at hcl
            clear hc5 HL5 hr5
            rcases (show k < p ∨ (p ≤ k ∧ p + 4 ≤ k) by omega) with h | ⟨h, h'⟩
            all_goals
              go_wp2
              go_round
              case rel => exact ⟨k + 1, by omega, by go_num⟩
              case measure => simp [intOf]; omega
        · rw [show behindL len f p v k = 0 by rw [behindL, if_neg hl]] at hcl
          clear hc5 HL5 hr5
          go_wp2
          go_round
          case rel => exact ⟨k + 1, by omega, by go_num⟩
          case measure => simp [intOf]; omega
      · have hf0 : fits len at_ = false := by simpa using hf
        clear hf
        by_cases hl : k < len
        · obtain ⟨b, off, rfl, hcb⟩ : ∃ b off, a = some ⟨b, off, none⟩ ∧ w5.cell? ⟨b, off + k, none⟩ = some (.int .u8 (f k)) := by
            rcases hr5.2 with h | ⟨b, off, h, hc⟩
            · omega
            · exact ⟨b, off, h, (hc k hl).1⟩
          rw [show behindL len f at_ v k = f k by rw [behindL, if_pos hl, putL, if_neg (by simp [hf0]), baseL, if_pos hl]] at hcl
          clear hc5 HL5 hr5
          go_wp2
          go_round
          case rel => exact ⟨k + 1, by omega, by go_num⟩
          case measure => simp [intOf]; omega
        · rw [show behindL len f at_ v k = 0 by rw [behindL, if_neg hl]] at hcl
          clear hc5 HL5 hr5
          go_wp2
          go_round
          case rel => exact ⟨k + 1, by omega, by go_num⟩
          case measure => simp [intOf]; omega
    · clear HL5 hc5 hr5
      go_wp2
      go_ret
      exact ⟨rfl, hb6⟩
end Go.Proofs.Ytjmbpehdikeiaaa
