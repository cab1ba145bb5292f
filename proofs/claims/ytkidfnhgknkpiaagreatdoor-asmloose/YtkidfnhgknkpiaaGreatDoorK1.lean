/-
  Layer 6's numberOf, wordsTo and digits, the program's: the plain answer, of every text.
-/
import Derived.Test.YtkidfnhgknkpiaaGreatDoorPn
import Derived.Test.YtkidfnhgknkpiaaGreatDoorFmt
import Derived.Test.YtkidfnhgknkpiaaGreatDoorSh1
import Derived.Lib.AtoiErrMem
namespace Go.Proofs.YtkidfnhgknkpiaaGreatDoor
set_option linter.unusedVariables false
set_option linter.unusedSimpArgs false
open Go.ChangeShapes Go.WideShapes Go.ChangeAt Go.RowKit

theorem ret_ib {a a' : Int} {b b' : Bool} (h : a = a') (g : b = b') : Ending.returned (.tuple #[.int .i64 a, .bool b]) = .returned (.tuple #[.int .i64 a', .bool b']) := by rw [h, g]
theorem bs_eq (l : Bs) (s : ByteArray) : (bs l = s) = (l = s.data.toList) := by
  apply propext
  constructor
  · intro h; rw [← h, bs_data]
  · intro h; rw [h, bs_of]
theorem str_eq (a b : ByteArray) : (a.toList == b.toList) = decide (a.data.toList = b.data.toList) := by
  rw [Lib.toList_data, Lib.toList_data, Bool.eq_iff_iff]; simp
def numV (s : Bs) : Int := match Lib.atoiAll s with
  | .ok v => v
  | .syntax => 0
  | .range => Lib.atoiSat s
theorem numOf_some {s : Bs} {v : Int} (h : numOf s = some v) : numV s = v := by
  unfold numOf at h; unfold numV
  split at h <;> simp_all
theorem number_any (s : ByteArray) (hs : s.size ≤ 1000000) (w : World) (V : Vars w) :
    Calls Tryz.prog 122 #[.string s] w fun e w' => e = .returned (.tuple #[.int .i64 (numV s.data.toList), .bool (numOf s.data.toList).isSome]) ∧ Below w.heap.size w w' := by
  cases hA : Lib.atoiAll s.data.toList with
  | ok v =>
    have hT := Tryz.strconv_Atoi_ok s (by omega) v hA w
    have hb := Lib.atoiAll_bounds hA
    have e1 : numV s.data.toList = v := by simp [numV, hA]
    have e2 : (numOf s.data.toList).isSome = decide (Lib.itoa v = s.data.toList) := by
      simp only [numOf, hA]; split <;> simp_all
    rw [e1, e2]
    have HV : Hid (Vars w) := V
    clear e1 e2 hA V
    go_enter Tryz.func122, Tryz.ntmps122
    go_wp2_with (first | (go_at_call 138; refine hT.mono ?_; rintro e w1 ⟨rfl, hw⟩; have hb1 : Below w.heap.size w w1 := (by rcases hw with rfl | ⟨t, rfl⟩ <;> first | exact Below.refl _ _ | exact Lib.bytesWorld_below _ _ _); clear hw) | (go_at_call 47; refine (itoa_any v _ (HV.out.call hb1) hb.1 hb.2).mono ?_; rintro e w2 ⟨rfl, hb2⟩))
    go_ret2
    exact ⟨ret_ib rfl (by rw [str_eq, bs_data]), hb1.trans (hb2.mono hb1.size)⟩
  | «syntax» =>
    obtain ⟨t, p, hsy⟩ := V.syn
    have hT := Tryz.strconv_Atoi_syntax s (by omega) hA _ w hsy (.inr ⟨t, p, rfl⟩)
    have e1 : numV s.data.toList = 0 := by simp [numV, hA]
    have e2 : (numOf s.data.toList).isSome = false := by simp [numOf, hA]
    rw [e1, e2]
    clear e1 e2 hA V hsy
    go_enter Tryz.func122, Tryz.ntmps122
    go_wp2_with (go_at_call 138; refine hT.mono ?_; rintro e w1 ⟨N, rfl, _, _, hb1⟩)
    go_ret2
    exact ⟨rfl, hb1⟩
  | range =>
    obtain ⟨t, p, hsy⟩ := V.rng
    have hT := Tryz.strconv_Atoi_range s (by omega) hA _ w hsy (.inr ⟨t, p, rfl⟩)
    have e1 : numV s.data.toList = Lib.atoiSat s.data.toList := by simp [numV, hA]
    have e2 : (numOf s.data.toList).isSome = false := by simp [numOf, hA]
    rw [e1, e2]
    clear e1 e2 hA V hsy
    go_enter Tryz.func122, Tryz.ntmps122
    go_wp2_with (go_at_call 138; refine hT.mono ?_; rintro e w1 ⟨N, rfl, _, _, hb1⟩)
    go_ret2
    exact ⟨rfl, hb1⟩
/-- What wordsTo answers beside its bool. -/
def wtoV (s : Bs) (a : Int) : Int := match Lib.parseUintB 32 s with
  | .ok u => if Lib.itoa u = s then (wayOf u a).tdiv 4 else 0
  | _ => 0
theorem wordsTo_some {s : Bs} {a v : Int} (h : wordsTo s a = some v) : wtoV s a = v := by
  unfold wordsTo at h; unfold wtoV
  split at h <;> simp_all
theorem parse32_lt {l : List UInt8} {u : Nat} (h : Lib.parseUintB 32 l = .ok u) : u < 4294967296 := by
  have key : ∀ (l : List UInt8) (acc u : Nat), acc ≤ 4294967295 → Lib.parseUintM (2 ^ 32 - 1) acc l = .ok u → u ≤ 4294967295 := by
    intro l
    induction l with
    | nil => intro acc u ha h; simp [Lib.parseUintM] at h; omega
    | cons c r ih =>
      intro acc u ha h
      simp only [Lib.parseUintM] at h
      split at h
      · split at h
        · cases h
        · split at h
          · cases h
          · exact ih _ u (by omega) h
      · cases h
  unfold Lib.parseUintB at h
  split at h
  · cases h
  · have := key l 0 u (by omega) h; omega
theorem sext32_bd (x : Int) (h0 : 0 ≤ x) (h1 : x ≤ 4294967295) : -2147483648 ≤ sext x 32 ∧ sext x 32 ≤ 2147483647 := by
  unfold sext; simp; unfold sx; simp; split <;> omega
theorem way_bd (u a : Int) : -2147483648 ≤ wayOf u a ∧ wayOf u a ≤ 2147483647 := sext32_bd _ (by omega) (by omega)
theorem way_wrap (u a : Int) : wrap64 ((sext ((u - (a + 4)) % 4294967296) 32).tdiv 4) = (wayOf u a).tdiv 4 := by
  have h := way_bd u a
  show wrap64 ((wayOf u a).tdiv 4) = _
  have : -2147483648 ≤ (wayOf u a).tdiv 4 ∧ (wayOf u a).tdiv 4 ≤ 2147483647 := by
    rcases Int.le_total 0 (wayOf u a) with h2 | h2
    · rw [Int.tdiv_eq_ediv_of_nonneg h2]; omega
    · rw [show wayOf u a = -(-(wayOf u a)) by omega, Int.neg_tdiv, Int.tdiv_eq_ediv_of_nonneg (by omega)]; omega
  generalize (wayOf u a).tdiv 4 = y at this
  unfold wrap64; omega
theorem wordsTo_any (s : ByteArray) (a : Int) (hs : s.size ≤ 1000000) (w : World) (V : Vars w) :
    Calls Tryz.prog 121 #[.string s, .int .u32 a] w fun e w' => e = .returned (.tuple #[.int .i64 (wtoV s.data.toList a), .bool (wordsTo s.data.toList a).isSome]) ∧ Below w.heap.size w w' := by
  cases hA : Lib.parseUintB 32 s.data.toList with
  | ok u =>
    have hT := Tryz.strconv_ParseUint_10_at32_ok s (by omega) u hA w
    have hu := parse32_lt hA
    have HV : Hid (Vars w) := V
    clear V
    have hF : ∀ w, Vars w → Calls Tryz.prog 45 #[.int .u64 u, .int .i64 10] w fun e w' => e = .returned (.string (bs (Lib.itoa u))) ∧ Below w.heap.size w w' := fun w V => fmt_any u (by omega) w V
    by_cases he : Lib.itoa u = s.data.toList
    · have e1 : wtoV s.data.toList a = (wayOf u a).tdiv 4 := by simp [wtoV, hA, he]
      have e2 : (wordsTo s.data.toList a).isSome = decide ((wayOf u a).tmod 4 = 0) := by
        simp only [wordsTo, hA, he, if_true]; split <;> simp_all
      rw [e1, e2]
      have hq : ((bs (Lib.itoa u)).toList == s.toList) = true := by rw [str_eq, bs_data]; simpa using he
      clear e1 e2 hA he
      go_enter Tryz.func121, Tryz.ntmps121
      go_wp2_with (first | (go_at_call 137; refine hT.mono ?_; rintro e w1 ⟨rfl, hw⟩; have hb1 : Below w.heap.size w w1 := (by rcases hw with rfl | rfl <;> first | exact Below.refl _ _ | exact Lib.bytesWorld_below _ _ _); clear hw) | (go_at_call 45; refine (hF _ (HV.out.call hb1)).mono ?_; rintro e w2 ⟨rfl, hb2⟩) | (go_at_call 46; refine (behind_any a _).mono ?_; rintro e w' ⟨rfl, hw⟩; obtain rfl := hw.symm; clear hw) | (go_at_call 75; refine (sext_any _ _ _ (by omega) (by omega)).mono ?_; rintro e w' ⟨rfl, hx⟩; obtain rfl := hx.symm; clear hx))
      go_ret2
      exact ⟨ret_ib (way_wrap u a) (by unfold wayOf; exact Bool.eq_iff_iff.2 ⟨fun h => decide_eq_true (beq_iff_eq.1 h), fun h => beq_iff_eq.2 (of_decide_eq_true h)⟩), hb1.trans (hb2.mono hb1.size)⟩
    · have e1 : wtoV s.data.toList a = 0 := by simp [wtoV, hA, he]
      have e2 : (wordsTo s.data.toList a).isSome = false := by simp [wordsTo, hA, he]
      rw [e1, e2]
      have hq : ((bs (Lib.itoa u)).toList == s.toList) = false := by rw [str_eq, bs_data]; simpa using he
      clear e1 e2 hA he
      go_enter Tryz.func121, Tryz.ntmps121
      go_wp2_with (first | (go_at_call 137; refine hT.mono ?_; rintro e w1 ⟨rfl, hw⟩; have hb1 : Below w.heap.size w w1 := (by rcases hw with rfl | rfl <;> first | exact Below.refl _ _ | exact Lib.bytesWorld_below _ _ _); clear hw) | (go_at_call 45; refine (hF _ (HV.out.call hb1)).mono ?_; rintro e w2 ⟨rfl, hb2⟩))
      go_ret2
      exact ⟨rfl, hb1.trans (hb2.mono hb1.size)⟩
  | «syntax» =>
    obtain ⟨t, p, hsy⟩ := V.syn
    have hT := Tryz.strconv_ParseUint_10_at32_syntax s (by omega) hA _ w hsy (.inr ⟨t, p, rfl⟩)
    have e1 : wtoV s.data.toList a = 0 := by simp [wtoV, hA]
    have e2 : (wordsTo s.data.toList a).isSome = false := by simp [wordsTo, hA]
    rw [e1, e2]
    clear e1 e2 hA V hsy
    go_enter Tryz.func121, Tryz.ntmps121
    go_wp2_with (go_at_call 137; refine hT.mono ?_; rintro e w1 ⟨N, rfl, _, _, hb1⟩)
    go_ret2
    exact ⟨rfl, hb1⟩
  | range =>
    obtain ⟨t, p, hsy⟩ := V.rng
    have hT := Tryz.strconv_ParseUint_10_at32_range s (by omega) hA _ w hsy (.inr ⟨t, p, rfl⟩)
    have e1 : wtoV s.data.toList a = 0 := by simp [wtoV, hA]
    have e2 : (wordsTo s.data.toList a).isSome = false := by simp [wordsTo, hA]
    rw [e1, e2]
    clear e1 e2 hA V hsy
    go_enter Tryz.func121, Tryz.ntmps121
    go_wp2_with (go_at_call 137; refine hT.mono ?_; rintro e w1 ⟨N, rfl, _, _, hb1⟩)
    go_ret2
    exact ⟨rfl, hb1⟩
end Go.Proofs.YtkidfnhgknkpiaaGreatDoor
