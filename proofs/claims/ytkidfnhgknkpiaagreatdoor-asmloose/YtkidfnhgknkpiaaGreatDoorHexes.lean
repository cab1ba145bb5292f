/-
  Contracts of the functions of layer 1 that write and read digits (the program's and the document's Hex and Unhex, the program's digitValue): each call returns the same plain text or word, for every word and every text.
-/
import Derived.Test.YtkidfnhgknkpiaaGreatDoorBytes
import Derived.Laws.BytesArg
import Derived.Laws.DeepStrings4
namespace Go.Proofs.YtkidfnhgknkpiaaGreatDoor
open Go.ChangeShapes Go.WideShapes Go.ChangeAt Go.RowKit

def dg (k : Nat) : Int := if k < 10 then 48 + k else 55 + k
theorem dg_at (k : Nat) (h : k < 16) : ((({ data := #[48, 49, 50, 51, 52, 53, 54, 55, 56, 57, 65, 66, 67, 68, 69, 70] } : ByteArray)[k]'h).toNat : Int) = dg k := by
  have : k = 0 ∨ k = 1 ∨ k = 2 ∨ k = 3 ∨ k = 4 ∨ k = 5 ∨ k = 6 ∨ k = 7 ∨ k = 8 ∨ k = 9 ∨ k = 10 ∨ k = 11 ∨ k = 12 ∨ k = 13 ∨ k = 14 ∨ k = 15 := by omega
  rcases this with rfl | rfl | rfl | rfl | rfl | rfl | rfl | rfl | rfl | rfl | rfl | rfl | rfl | rfl | rfl | rfl <;> rfl
theorem dg_cut (k : Nat) (h : k < 16) : ({ data := #[48, 49, 50, 51, 52, 53, 54, 55, 56, 57, 65, 66, 67, 68, 69, 70] } : ByteArray).extract k (k + 1) = strOfNums [dg k] := by
  have : k = 0 ∨ k = 1 ∨ k = 2 ∨ k = 3 ∨ k = 4 ∨ k = 5 ∨ k = 6 ∨ k = 7 ∨ k = 8 ∨ k = 9 ∨ k = 10 ∨ k = 11 ∨ k = 12 ∨ k = 13 ∨ k = 14 ∨ k = 15 := by omega
  rcases this with rfl | rfl | rfl | rfl | rfl | rfl | rfl | rfl | rfl | rfl | rfl | rfl | rfl | rfl | rfl | rfl <;> decide

def isd (c : Int) : Bool := decide ((48 ≤ c ∧ c ≤ 57) ∨ (65 ≤ c ∧ c ≤ 70))
def dv (c : Int) : Int := if 48 ≤ c ∧ c ≤ 57 then c - 48 else if 65 ≤ c ∧ c ≤ 70 then c - 55 else 0
theorem dv_bd (c : Int) : 0 ≤ dv c ∧ dv c ≤ 15 := by unfold dv; split <;> (try split) <;> omega
theorem dv_dg (k : Nat) (h : k < 16) : dv (dg k) = k ∧ isd (dg k) = true := by unfold dv isd dg; simp; split <;> (try split) <;> (try split) <;> omega
theorem ret2d {a a' : Int} {b b' : Bool} (h : a = a') (g : b = b') : Ending.returned (.tuple #[.int .u8 a, .bool b]) = .returned (.tuple #[.int .u8 a', .bool b']) := by rw [h, g]
theorem no_dg (c : Int) (h : ∀ j, j < 16 → dg j ≠ c) : dv c = 0 ∧ isd c = false := by
  have h1 : ¬ ((48 ≤ c ∧ c ≤ 57) ∨ (65 ≤ c ∧ c ≤ 70)) := by
    rintro (hc | hc)
    · exact h (c - 48).toNat (by omega) (by unfold dg; rw [if_pos (by omega)]; omega)
    · exact h (c - 55).toNat (by omega) (by unfold dg; rw [if_neg (by omega)]; omega)
  refine ⟨?_, by simp only [isd, decide_eq_false_iff_not]; exact h1⟩
  unfold dv; rw [if_neg (by omega), if_neg (by omega)]

set_option maxRecDepth 20000 in
theorem digitValue_any (c : Int) (w : World) :
    Calls Tryz.prog 119 #[.int .u8 c] w fun e w' => e = .returned (.tuple #[.int .u8 (dv c), .bool (isd c)]) ∧ w' = w := by
  go_enter Tryz.func119, Tryz.ntmps119
  go_wp2
  go_loop [5] (fun i => ∃ k : Nat, k ≤ 16 ∧ i = .int .i64 k ∧ Hid (∀ j, j < k → dg j ≠ c)) (fun i => 16 - (intOf i).toNat)
  case atStart => exact ⟨0, Nat.zero_le _, rfl, fun j hj => by omega⟩
  case round =>
    obtain ⟨k, hk, rfl, HN⟩ := hrel
    by_cases hlt : k < 16
    · have HD : Hid _ := dg_at k hlt
      go_wp2
      · have hc : (((({ data := #[48, 49, 50, 51, 52, 53, 54, 55, 56, 57, 65, 66, 67, 68, 69, 70] } : ByteArray)[k]'hlt).toNat : Int) == c) = true := by assumption
        rw [HD.out] at hc
        have hc' : dg k = c := by simpa using hc
        subst hc'
        go_ret2
        exact ⟨ret2d (dv_dg k hlt).1.symm (dv_dg k hlt).2.symm, rfl⟩
      · have hc : (((({ data := #[48, 49, 50, 51, 52, 53, 54, 55, 56, 57, 65, 66, 67, 68, 69, 70] } : ByteArray)[k]'hlt).toNat : Int) == c) = false := by assumption
        rw [HD.out] at hc
        have hc' : dg k ≠ c := by simpa using hc
        go_round
        case rel =>
          refine ⟨k + 1, by omega, by go_num, fun j hj => ?_⟩
          by_cases e : j = k
          · subst e; exact hc'
          · exact HN.out j (by omega)
        case measure => simp [intOf]; omega
    · obtain rfl : k = 16 := by omega
      go_wp2
      go_ret2
      exact ⟨ret2d (no_dg c HN.out).1.symm (no_dg c HN.out).2.symm, rfl⟩

def hdg (v : Int) (k : Nat) : Int := dg (v / 2 ^ (4 * k) % 16).toNat
def hl (v : Int) : Nat → List Int
  | 0 => []
  | k + 1 => hdg v k :: hl v k
theorem hl_len (v : Int) : ∀ k, (hl v k).length = k
  | 0 => rfl
  | k + 1 => by simp [hl, hl_len v k]
theorem str_cons (x : Int) (l : List Int) : strOfNums [x] ++ strOfNums l = strOfNums (x :: l) := by
  simp [strOfNums, ByteArray.ext_iff]
def hexS (v : Int) (k : Nat) : ByteArray := strOfNums (hl v k)
theorem hexS_succ (v : Int) (k : Nat) : ({ data := #[48, 49, 50, 51, 52, 53, 54, 55, 56, 57, 65, 66, 67, 68, 69, 70] } : ByteArray).extract (v / 2 ^ (4 * k) % 16).toNat ((v / 2 ^ (4 * k) % 16).toNat + 1) ++ hexS v k = hexS v (k + 1) := by
  rw [dg_cut _ (by omega)]; exact str_cons _ _

set_option maxRecDepth 20000 in
theorem rhex_any (v : Int) (w : World) (v0 : 0 ≤ v) (v1 : v ≤ 4294967295) :
    Calls Tryz.prog 24 #[.int .u32 v] w fun e w' => e = .returned (.string (hexS v 8)) ∧ w' = w := by
  go_enter Tryz.func24, Tryz.ntmps24
  go_wp2
  go_loop [0, 3, 4] (fun x s i => ∃ (k : Nat) (b : ByteArray), k ≤ 8 ∧ i = .int .i64 k ∧ x = .int .u32 (v / 2 ^ (4 * k)) ∧ s = .string b ∧ b.size = k ∧ Hid (b = hexS v k)) (fun _ _ i => 8 - (intOf i).toNat)
  case atStart => exact ⟨0, _, Nat.zero_le _, rfl, by simp, rfl, rfl, rfl⟩
  case round =>
    obtain ⟨k, b, hk, rfl, rfl, rfl, hb, HB⟩ := hrel
    have hd : 0 ≤ v / 2 ^ (4 * k) ∧ v / 2 ^ (4 * k) ≤ 4294967295 := ⟨Int.ediv_nonneg v0 (Int.le_of_lt (Int.pow_pos (by omega))), Int.le_trans (Int.ediv_le_self _ v0) v1⟩
    have HS : Hid (v / 2 ^ (4 * k) / 16 = v / 2 ^ (4 * (k + 1))) := by
      show v / 2 ^ (4 * k) / 16 = v / 2 ^ (4 * (k + 1))
      rw [Nat.mul_add, Int.pow_add, Int.ediv_ediv_of_nonneg (Int.le_of_lt (Int.pow_pos (by omega)))]
      rfl
    by_cases hlt : k < 8
    · have hs16 : (({ data := #[48, 49, 50, 51, 52, 53, 54, 55, 56, 57, 65, 66, 67, 68, 69, 70] } : ByteArray).size : Int) = 16 := rfl
      go_wp2
      go_round
      case rel =>
        have e1 : (v / 2 ^ (4 * k) % 16 + 1).toNat = (v / 2 ^ (4 * k) % 16).toNat + 1 := by omega
        have e2 := hexS_succ v k
        rw [← HB.out, ← e1] at e2
        refine ⟨k + 1, _, by omega, by go_num, by rw [← HS.out], rfl, ?_, e2⟩
        rw [e2]; exact (strOfNums_size _).trans (hl_len v _)
      case measure => simp [intOf]; omega
    · go_wp2
      go_ret
      have e8 : k = 8 := by omega
      exact ⟨by show Ending.returned (.string b) = _; rw [HB.out, e8], rfl⟩

theorem hl_get (v : Int) : ∀ k i, i < k → (hl v k).getD i 0 = hdg v (k - 1 - i)
  | 0, _, h => by omega
  | k + 1, 0, _ => by simp [hl]
  | k + 1, i + 1, h => by
    have := hl_get v k i (by omega)
    simp only [hl, List.getD_cons_succ, this]
    rw [show k + 1 - 1 - (i + 1) = k - 1 - i by omega]

structure HexRel (w wr : World) (g : Nat) (v : Int) (k : Nat) : Prop where
  cells : ∀ i, i < 8 → wr.cell? ⟨g, i, none⟩ = some (.int .u8 (if 8 - k ≤ i then hdg v (7 - i) else 0))
  free : ∀ i, wr.frozen? ⟨g, i, none⟩ = false
  below : Below g w wr
theorem HexRel.next {w wr : World} {g : Nat} {v : Int} {k : Nat} (h : HexRel w wr g v k) (hk : k < 8) : HexRel w (wr.setCell ⟨g, 7 - k, none⟩ (.int .u8 (hdg v k))) g v (k + 1) := by
  refine ⟨fun i hi => ?_, fun i => by simpa using h.free i, h.below.setCell (Nat.le_refl _) _⟩
  by_cases e : i = 7 - k
  · subst e
    rw [World.cell?_setCell_same wr _ _ (h.cells _ hi), if_pos (by omega), show 7 - (7 - k) = k by omega]
  · rw [World.cell?_setCell_other wr ⟨g, 7 - k, none⟩ ⟨g, i, none⟩ _ (by simp), h.cells i hi]
    by_cases c : 8 - k ≤ i
    · rw [if_pos c, if_pos (by omega)]
    · rw [if_neg c, if_neg (by omega)]
theorem zero_cells {w : World} {g n : Nat} (h : w.heap[g]? = some (.cells (List.replicate n (.int .u8 0)).toArray 5 (0, 0))) :
    (∀ i, i < n → w.cell? ⟨g, i, none⟩ = some (.int .u8 0)) ∧ ∀ i, w.frozen? ⟨g, i, none⟩ = false := by
  refine ⟨fun i hi => ?_, fun i => by simp [World.frozen?, h]⟩
  rw [cell_of_row w g i _ 5 (0, 0) h]
  simp [hi]

set_option maxHeartbeats 1000000 in
set_option maxRecDepth 20000 in
theorem hex_any (v : Int) (w : World) (v0 : 0 ≤ v) (v1 : v ≤ 4294967295) :
    Calls Tryz.prog 18 #[.int .u32 v] w fun e w' => e = .returned (.string (hexS v 8)) ∧ Below w.heap.size w w' := by
  obtain ⟨i0, hi, hz0, hz1, hz2⟩ := info_parts info5
  obtain ⟨g, hg⟩ : ∃ g, g = w.heap.size := ⟨_, rfl⟩
  have HG : Hid (g = w.heap.size) := hg
  rw [← hg]
  clear hg
  go_enter Tryz.func18, Tryz.ntmps18
  go_wp2_with (at_make; refine wpList_make_full _ rfl _ _ 38 rfl g 5 i0 (.int .u8 0) 1 Tryz.underlying38 hi hz0 hz1 .i64 .i64 _ _ 8 rfl rfl (by omega) (by omega) (by rw [hz2]; omega) (by unfold maxLen; omega) (Nat.le_of_eq HG.out) ?_; intro w2 hown2 hgrow2; rw [← HG.out] at hown2; have hb2 : Below g w w2 := (Below.refl _ _).grown hgrow2 (Nat.le_of_eq HG.out) (by simp); obtain ⟨z1, z2⟩ := zero_cells (made_of hown2); have hs : HexRel w w2 g v 0 := ⟨fun i hi => (z1 i hi).trans (by rw [if_neg (by omega)]), z2, hb2⟩; clear z1 z2 hown2 hgrow2 hb2; simp only [← HG.out])
  go_loopw [6] (fun i wr => ∃ k : Nat, k ≤ 8 ∧ i = .int .i64 k ∧ HexRel w wr g v k) (fun i _ => 8 - (intOf i).toNat)
  case atStart => exact ⟨0, by omega, rfl, hs⟩
  case round =>
    obtain ⟨k, hk, rfl, hr⟩ := hrel
    clear hs
    have hd : 0 ≤ v / 2 ^ (4 * k) ∧ v / 2 ^ (4 * k) ≤ 4294967295 := ⟨Int.ediv_nonneg v0 (Int.le_of_lt (Int.pow_pos (by omega))), Int.le_trans (Int.ediv_le_self _ v0) v1⟩
    by_cases hlt : k < 8
    · have c1 := hr.cells (7 - k) (by omega)
      have c2 := hr.free (7 - k)
      have hn := hr.next hlt
      have HD : Hid _ := dg_at (v / 2 ^ (4 * k) % 16).toNat (by omega)
      go_wp2
      go_roundw
      case rel =>
        refine ⟨k + 1, by omega, by go_num, ?_⟩
        rw [HD.out]
        exact hn
      case measure => simp [intOf]; omega
    · have hx := run_convert_bytes_arg (P := Tryz.prog) wr 38 5 Tryz.underlying38 Tryz.underlying5 g 0 8 8 (hl v 8) (hl_len v 8) (fun i hi => by rw [Nat.zero_add, hr.cells i hi, if_pos (by omega), hl_get v 8 i hi]) 9 Tryz.underlying9
      go_wp2
      go_ret
      exact ⟨rfl, hr.below⟩
end Go.Proofs.YtkidfnhgknkpiaaGreatDoor
