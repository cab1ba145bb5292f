/-
  The small functions of layer 8, the program's: what a byte is, prefixes, copies of texts; and the range over a text, step by step.
-/
import Derived.Test.YtllhcjmabhempaaDoorTxt
import Derived.Test.YtllhcjmabhempaaDoorRows
import Derived.WalkKit
import Derived.ProofKit
import Derived.OpenShut
import Derived.ShutString
import Derived.OwnWalk
import Derived.Deep.QuietTactic
import Derived.Deep.MidRow
import Derived.Deep.RegionHeld3
import Derived.Deep.LoopGhost
import Derived.Laws.RangeAny
import Derived.Laws.MakeOwn
import Derived.Lib.OthersKept
import Derived.Lib.UnsafeStr
import Derived.Lib.BufferWrite
import Derived.Lib.Hide
import Derived.Handy
import Derived.WalkSmall
namespace Go.Proofs.YtllhcjmabhempaaDoor
set_option linter.unusedVariables false
set_option linter.unusedSimpArgs false
open Go.ChangeShapes Go.WideShapes Go.ChangeAt Go.RowKit

theorem ret_int {k : IntKind} {a b : Int} (h : a = b) : Ending.returned (.int k a) = .returned (.int k b) := by rw [h]
theorem ret_bool {a b : Bool} (h : a = b) : Ending.returned (.bool a) = .returned (.bool b) := by rw [h]
theorem ret_str {a b : ByteArray} (h : a = b) : Ending.returned (.string a) = .returned (.string b) := by rw [h]
theorem bdrewN {B : Nat} {a w : World} (h : Below B a w) (n : Nat) : Below B a (w.drewN n) := ⟨h.os, h.tape, h.output, h.size, h.block⟩
theorem Below.call {B : Nat} {a b c : World} (h : Below B a b) (g : Below b.heap.size b c) (hB : B ≤ a.heap.size) : Below B a c := h.trans (g.mono (Nat.le_trans hB h.size))

set_option maxRecDepth 20000 in
theorem isBlank_any (r : Int) (w : World) : Calls Tryd.prog 46 #[.int .i32 r] w fun e w' => e = .returned (.bool (blkI r)) ∧ w' = w := by
  go_enter Tryd.func46, Tryd.ntmps46
  go_wp2
  all_goals go_ret
  all_goals refine ⟨ret_bool ?_, rfl⟩
  all_goals (unfold blkI; first | rfl | (rw [Bool.eq_iff_iff]; simp_all; done) | (rw [Bool.eq_iff_iff]; simp_all; omega))
set_option maxRecDepth 20000 in
theorem isLetter_any (r : Int) (w : World) : Calls Tryd.prog 20 #[.int .i32 r] w fun e w' => e = .returned (.bool (ltrI r)) ∧ w' = w := by
  go_enter Tryd.func20, Tryd.ntmps20
  go_wp2
  all_goals go_ret
  all_goals refine ⟨ret_bool ?_, rfl⟩
  all_goals (unfold ltrI; first | rfl | (rw [Bool.eq_iff_iff]; simp_all; done) | (rw [Bool.eq_iff_iff]; simp_all; omega))
set_option maxRecDepth 20000 in
theorem isDigit_any (r : Int) (w : World) : Calls Tryd.prog 23 #[.int .i32 r] w fun e w' => e = .returned (.bool (digI r)) ∧ w' = w := by
  go_enter Tryd.func23, Tryd.ntmps23
  go_wp2
  all_goals go_ret
  all_goals refine ⟨ret_bool ?_, rfl⟩
  all_goals (unfold digI; first | rfl | (rw [Bool.eq_iff_iff]; simp_all; done) | (rw [Bool.eq_iff_iff]; simp_all; omega))
set_option maxRecDepth 20000 in
theorem slitePrefix_any (s p : ByteArray) (w : World) : Calls Tryd.prog 47 #[.string s, .string p] w fun e w' => e = .returned (.bool (Lib.hasPrefix s.data.toList p.data.toList)) ∧ w' = w := by
  rw [← Lib.hasPrefix_of_take, ← Lib.size_eq, ← Lib.size_eq]
  go_enter Tryd.func47, Tryd.ntmps47
  go_wp2
  · rename_i h
    go_ret
    refine ⟨?_, rfl⟩
    show Ending.returned (Value.bool ((s.extract 0 p.size).toList == p.toList)) = _
    rw [Lib.extract_toList, Lib.toList_data]
    simp [h]
  · rename_i h
    go_ret
    refine ⟨?_, rfl⟩
    show Ending.returned (Value.bool false) = _
    simp [h]
set_option maxRecDepth 20000 in
theorem prefix_any (s p : ByteArray) (w : World) : Calls Tryd.prog 19 #[.string s, .string p] w fun e w' => e = .returned (.bool (Lib.hasPrefix s.data.toList p.data.toList)) ∧ w' = w := by
  go_enter Tryd.func19, Tryd.ntmps19
  go_wp2_with (go_at_call 47; refine (slitePrefix_any _ _ _).mono ?_; rintro e w1 ⟨rfl, hw⟩; rw [hw]; clear hw)
  go_ret
  exact ⟨rfl, rfl⟩
theorem pre_any (l : Bs) (p : Bs) (w : World) : Calls Tryd.prog 19 #[.string (bs l), .string (bs p)] w fun e w' => e = .returned (.bool (p.isPrefixOf l)) ∧ w' = w := by
  have := prefix_any (bs l) (bs p) w
  rw [bs_data, bs_data] at this
  exact this
theorem opens_any (l : Bs) (w : World) : Calls Tryd.prog 19 #[.string (bs l), .string { data := #[40, 42] }] w fun e w' => e = .returned (.bool (opens l)) ∧ w' = w := by
  have := pre_any l [40, 42] w
  rw [show ([40, 42] : Bs).isPrefixOf l = opens l from opens_prefix l] at this
  exact this
theorem info5 : (Tryd.prog.info? 5).map (fun i => (i.zero, i.size, i.bytes)) = some (some (.int .u8 0), 1, 1) := by kernel_rfl
set_option maxHeartbeats 4000000 in
set_option maxRecDepth 100000 in
theorem sliteClone_any (s : ByteArray) (w : World) (hlim : s.size ≤ 281474976710656) :
    Calls Tryd.prog 75 #[.string s] w fun e w' => e = .returned (.string s) ∧ Below w.heap.size w w' := by
  by_cases h0 : s.size = 0
  · have hs : s = ⟨#[]⟩ := by
      apply ByteArray.ext
      exact Array.eq_empty_of_size_eq_zero h0
    subst hs
    go_enter Tryd.func75, Tryd.ntmps75
    go_wp2
    go_ret
    exact ⟨rfl, Below.refl _ _⟩
  · obtain ⟨i0, hi, hz0, hz1, hz2⟩ := info_parts info5
    have hinfo : (Tryd.prog.info? 5).map (·.size) = some 1 := by rw [hi]; simp [hz1]
    have hco : Tryd.prog.cellsOf 5 = 1 := by simp [Program.cellsOf, hi, hz1]
    obtain ⟨M, hM⟩ : ∃ M, M = madeCells (Value.int .u8 0).cells (((s.size : Nat) : Int).toNat * i0.size) := ⟨_, rfl⟩
    have hMs : M.size = s.size := by rw [hM, size_madeCells, hz1]; simp
    have hmk : ∀ W : World, (Instr.makeSlice 22 (.int .i64 (s.size : Int)) (.int .i64 (s.size : Int))).run Tryd.prog W = .ok (.slice (some ⟨W.heap.size, 0, none⟩) s.size s.size) (W.alloc (.cells M 5)) := fun W => by
      have h := run_make (P := Tryd.prog) W 22 5 i0 (.int .u8 0) Tryd.underlying22 hi hz0 .i64 .i64 (s.size : Int) (s.size : Int) (by omega) (by omega) (by rw [hz2]; omega) (by omega)
      rw [← hM] at h
      simpa using h
    clear hM
    have hcp := Lib.run_copy_row_string (P := Tryd.prog) (w.alloc (.cells M 5)) 22 9 3 5 w.heap.size 0 s.size s.size s M 5 Tryd.underlying22 hinfo (heap_alloc_new w _) (Nat.le_refl _) (by omega)
    obtain ⟨Y, hY⟩ : ∃ Y, Y = (M.toList.take 0 ++ Lib.byteCells s.data.toList ++ M.toList.drop (0 + s.size)).toArray := ⟨_, rfl⟩
    rw [← hY] at hcp
    have hYl : Y.toList = Lib.byteCells s.data.toList := by
      rw [hY, List.toList_toArray, List.take_zero, List.nil_append, List.drop_of_length_le (by rw [Array.length_toList]; omega), List.append_nil]
    have hYs : Y.size = s.size := by rw [← Array.length_toList, hYl, Lib.byteCells_length, ← Lib.size_eq]
    have hgY : ((w.alloc (.cells M 5)).setRow w.heap.size Y).heap[w.heap.size]? = some (.cells Y 5 (0, 0)) := setRow_heap _ _ M _ 5 (0, 0) (heap_alloc_new w _)
    have hne : s.data.toList ≠ [] := fun e => h0 (by rw [Lib.size_eq, e]; rfl)
    have hUS := Lib.run_unsafeString_row (P := Tryd.prog) ((w.alloc (.cells M 5)).setRow w.heap.size Y) 78 3 9 5 Tryd.underlying78 hco w.heap.size Y.size (by unfold World.shape?; rw [hgY]) s.data.toList hne (by rw [← Lib.size_eq]; omega) (by rw [← Lib.size_eq]; omega)
      (fun j x hx => Lib.cells_of_row hgY Y.size j _ (by rw [List.take_of_length_le (by rw [Array.length_toList]; exact Nat.le_refl _), hYl]; simp [Lib.byteCells, hx]))
    rw [← Lib.size_eq] at hUS
    clear hY
    go_enter Tryd.func75, Tryd.ntmps75
    go_wp2
    go_ret
    have hb1 : Below w.heap.size w (w.alloc (.cells M 5)) := (Below.refl _ w).alloc (Nat.le_refl _) _
    have hb2 : Below w.heap.size (w.alloc (.cells M 5)) ((w.alloc (.cells M 5)).setRow w.heap.size Y) := ⟨rfl, rfl, rfl, by simp, fun k hk => setRow_other _ _ _ _ (by omega)⟩
    exact ⟨rfl, Lib.below_freeze (hb1.trans hb2) (p := ⟨w.heap.size, 0, none⟩) (Nat.le_refl _) _⟩
set_option maxRecDepth 20000 in
theorem clone_any (s : ByteArray) (w : World) (hlim : s.size ≤ 281474976710656) : Calls Tryd.prog 63 #[.string s] w fun e w' => e = .returned (.string s) ∧ Below w.heap.size w w' := by
  go_enter Tryd.func63, Tryd.ntmps63
  go_wp2_with (go_at_call 75; refine (sliteClone_any s _ hlim).mono ?_; rintro e w1 ⟨rfl, hb⟩)
  go_ret
  exact ⟨rfl, hb⟩

theorem decode_wide (s : ByteArray) (pos : Nat) (h : pos < s.size) (ha : 128 ≤ (s[pos]'h).toNat) :
    pos + (Utf8.decode s pos).2 ≤ s.size ∧ ∀ j (hj : j < s.size), pos ≤ j → j < pos + (Utf8.decode s pos).2 → 128 ≤ (s[j]'hj).toNat := by
  have hg : ∀ k (hk : pos + k < s.size), s.get! (pos + k) = s[pos + k]'hk := fun k hk => get_at s (pos + k) hk
  have e0 := get_at s pos h
  have hn : ¬ (s[pos]'h).toNat < 128 := by omega
  have key : ∀ n, (∀ k, k < n → ∃ hk : pos + k < s.size, 128 ≤ (s[pos + k]'hk).toNat) → 1 ≤ n → pos + n ≤ s.size ∧ ∀ j (hj : j < s.size), pos ≤ j → j < pos + n → 128 ≤ (s[j]'hj).toNat := fun n hk h1 => by
    refine ⟨by obtain ⟨q, _⟩ := hk (n - 1) (by omega); omega, fun j hj a b => ?_⟩
    obtain ⟨q, hq⟩ := hk (j - pos) (by omega)
    have : pos + (j - pos) = j := by omega
    simpa [this] using hq
  have cont : ∀ k, (decide (pos + k < s.size) && (s.get! (pos + k)).toNat / 64 == 2) = true → ∃ hk : pos + k < s.size, 128 ≤ (s[pos + k]'hk).toNat := fun k hk => by
    simp only [Bool.and_eq_true, decide_eq_true_eq, beq_iff_eq] at hk
    refine ⟨hk.1, ?_⟩
    rw [hg k hk.1] at hk
    omega
  have z : ∃ hk : pos + 0 < s.size, 128 ≤ (s[pos + 0]'hk).toNat := ⟨h, ha⟩
  simp only [Utf8.decode, e0, hn, if_false]
  split
  · rename_i c; simp only [Bool.and_eq_true] at c
    split
    · refine key 2 (fun k hk => ?_) (by omega)
      rcases (show k = 0 ∨ k = 1 by omega) with rfl | rfl
      · exact z
      · exact cont 1 (by simp only [Bool.and_eq_true]; exact c.2)
    · exact key 1 (fun k hk => by obtain rfl : k = 0 := by omega
                                  exact z) (by omega)
  · split
    · rename_i c; simp only [Bool.and_eq_true] at c
      split
      · refine key 3 (fun k hk => ?_) (by omega)
        rcases (show k = 0 ∨ k = 1 ∨ k = 2 by omega) with rfl | rfl | rfl
        · exact z
        · exact cont 1 (by simp only [Bool.and_eq_true]; exact c.1.2)
        · exact cont 2 (by simp only [Bool.and_eq_true]; exact c.2)
      · exact key 1 (fun k hk => by obtain rfl : k = 0 := by omega
                                    exact z) (by omega)
    · split
      · rename_i c; simp only [Bool.and_eq_true] at c
        split
        · refine key 4 (fun k hk => ?_) (by omega)
          rcases (show k = 0 ∨ k = 1 ∨ k = 2 ∨ k = 3 by omega) with rfl | rfl | rfl | rfl
          · exact z
          · exact cont 1 (by simp only [Bool.and_eq_true]; exact c.1.1.2)
          · exact cont 2 (by simp only [Bool.and_eq_true]; exact c.1.2)
          · exact cont 3 (by simp only [Bool.and_eq_true]; exact c.2)
        · exact key 1 (fun k hk => by obtain rfl : k = 0 := by omega
                                      exact z) (by omega)
      · exact key 1 (fun k hk => by obtain rfl : k = 0 := by omega
                                    exact z) (by omega)
/-- One step of a range over a text: the rune's place, its number and how many bytes it has; below 128 it is its byte, else all its bytes are 128 and more. -/
theorem next_at (l : Bs) (pos b : Nat) (w : World) (hit : w.heap[b]? = some (.stringIter (bs l) pos)) (h : pos < l.length) :
    ∃ R K : Nat, (∀ ty, (Instr.next (.pointer (some ⟨b, 0, none⟩)) true ty).run Tryd.prog w = .ok (.tuple #[.bool true, .int .i64 pos, .int .i32 R]) (w.iterAt b (bs l) (pos + K))) ∧ 1 ≤ K ∧ pos + K ≤ l.length ∧ R ≤ 2147483647 ∧
      ((R = l[pos].toNat ∧ K = 1 ∧ R < 128) ∨ (128 ≤ R ∧ 128 ≤ l[pos].toNat ∧ ∀ j (hj : j < l.length), pos ≤ j → j < pos + K → 128 ≤ l[j].toNat)) := by
  have hz := bs_size l
  have hp : pos < (bs l).size := by omega
  have hg := bs_get l pos hp h
  by_cases ha : ((bs l)[pos]'hp).toNat < 128
  · refine ⟨(l[pos]'h).toNat, 1, fun ty => ?_, by omega, by omega, ?_, .inl ⟨rfl, rfl, by rw [← hg]; exact ha⟩⟩
    · rw [← hg]; exact Lib.run_next_ascii_at w b (bs l) pos ty hit hp ha
    · rw [← hg]; omega
  · obtain ⟨h1, h2⟩ := decode_high (bs l) pos hp (by omega)
    obtain ⟨h3, h4⟩ := decode_wide (bs l) pos hp (by omega)
    have h5 := decode_le (bs l) pos
    refine ⟨(Utf8.decode (bs l) pos).1, (Utf8.decode (bs l) pos).2, fun ty => Lib.run_next_any_at w b (bs l) pos ty hit hp, h2, by omega, h5, .inr ⟨h1, by rw [← hg]; omega, fun j hj a c => ?_⟩⟩
    have := h4 j (by omega) a c
    rwa [bs_get l j (by omega) hj] at this
theorem next_end (l : Bs) (pos b : Nat) (w : World) (hit : w.heap[b]? = some (.stringIter (bs l) pos)) (h : ¬ pos < l.length) :
    ∀ ty, (Instr.next (.pointer (some ⟨b, 0, none⟩)) true ty).run Tryd.prog w = .ok (.tuple #[.bool false]) w := fun ty =>
  Lib.run_next_end_at w b (bs l) pos ty hit (by rw [bs_size]; exact h)
theorem slice_l (l : Bs) (k : Nat) (h : k ≤ l.length) (w : World) : (Instr.slice 9 (.string (bs l)) (some (.int .i64 (k : Int))) none none).run Tryd.prog w = .ok (.string (bs (l.drop k))) w := by
  rw [← bs_drop]
  have := run_slice_string_l (P := Tryd.prog) w 9 (bs l) Tryd.underlying9 .i64 (k : Int) (by omega) (by rw [bs_size]; omega)
  simpa using this
theorem slice_h (l : Bs) (k : Nat) (h : k ≤ l.length) (w : World) : (Instr.slice 9 (.string (bs l)) none (some (.int .i64 (k : Int))) none).run Tryd.prog w = .ok (.string (bs (l.take k))) w := by
  rw [← bs_take]
  have := run_slice_string_h (P := Tryd.prog) w 9 (bs l) Tryd.underlying9 .i64 (k : Int) (by omega) (by rw [bs_size]; omega)
  simpa using this
theorem slice_lz (l : Bs) (k : Nat) (h : k ≤ l.length) (z : Int) (hz : z = k) (w : World) : (Instr.slice 9 (.string (bs l)) (some (.int .i64 z)) none none).run Tryd.prog w = .ok (.string (bs (l.drop k))) w := by rw [hz]; exact slice_l l k h w
theorem slice_hz (l : Bs) (k : Nat) (h : k ≤ l.length) (z : Int) (hz : z = k) (w : World) : (Instr.slice 9 (.string (bs l)) none (some (.int .i64 z)) none).run Tryd.prog w = .ok (.string (bs (l.take k))) w := by rw [hz]; exact slice_h l k h w
end Go.Proofs.YtllhcjmabhempaaDoor
