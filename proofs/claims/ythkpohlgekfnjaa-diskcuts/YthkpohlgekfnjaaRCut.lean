/-
  The document's disk: its writes in order, the image behind so many writes.
-/
import Derived.Test.YthkpohlgekfnjaaRWrite
import Derived.Lib.AppendStr
namespace Go.Proofs.Ythkpohlgekfnjaa
open Go.ChangeShapes Go.WideShapes Go.ChangeAt Go.RowKit
attribute [local go_sem ↓] loadSec_seal storeSec_seal eqlSec_seal zeroSec
attribute [local go_sem] loadSec_run storeSec_run rowAt_at rowAt_old rowAt_drew rowAt_drewN roomSec_new roomAt_old roomAt_drew roomAt_drewN putSec_new putRow_past rowSec_put size_put putRow_drew putRow_drewN alloc_drewN setCell_drewN sec_size
set_option linter.unusedVariables false

theorem strF_size' (f : Nat → Int) (n : Nat) : (strF f n).size = n := by rw [strF, strOfNums_size]; simp
def wints (wn : Nat → Nat) (n : Nat) : List Value := (List.range n).map fun i => .int .i64 (wn i)
theorem wints_succ (wn : Nat → Nat) (n : Nat) : wints wn n ++ [.int .i64 (wn n)] = wints wn (n + 1) := by simp [wints, List.range_succ]
theorem wints_at (wn : Nat → Nat) {n i : Nat} (h : i < n) : (wints wn n)[i]? = some (.int .i64 (wn i)) := by simp [wints, h]
theorem strCells_row {f : Nat → Int} {n : Nat} (h : ∀ i, i < n → 0 ≤ f i ∧ f i ≤ 255) : Lib.strCells (strF f n) = rowOf f n := by
  have e2 : (strF f n).data.toList = ((List.range n).map f).map fun n => UInt8.ofNat n.toNat := strOfNums_data _
  unfold Lib.strCells rowOf
  rw [e2, List.map_map, List.map_map]
  apply List.map_congr_left
  intro i hi
  have hb := h i (List.mem_range.1 hi)
  simp
  omega
set_option maxHeartbeats 2000000 in
theorem rwrites_any (r : Nat) (R : Rk) (w : World) (h : RepR w r R) : Calls Try.prog 14 #[.pointer (some ⟨r, 0, none⟩)] w fun e w' => ∃ a c, e = .returned (.slice a R.m c) ∧ (∀ k, k < R.m → ∃ g, a = some ⟨g, 0, none⟩ ∧ w'.cell? ⟨g, k, none⟩ = some (.int .i64 (R.wn k)) ∧ g < w'.heap.size) ∧ Below w.heap.size w w' := by
  obtain ⟨i0, hi, hz0, hz1, hz2⟩ := info_parts info3
  obtain ⟨fa, fc, wa, wc, e1, e2, c0, c1, hr⟩ := h.parts
  have hm := h.m1
  have HR : Hid (∀ X, Below w.heap.size w X → RepR X r R ∧ X.cell? ⟨r, 1, none⟩ = some (.slice wa R.m wc)) := fun X hX => ⟨h.below hX, by rw [← e2]; exact (h.below hX).cell1.1⟩
  have HV : Hid (R.wv = .slice wa R.m wc) := e2
  clear h e1 e2
  go_enter Try.func14, Try.ntmps14
  go_wp2
  go_loopw [3, 4] (fun v i X => ∃ k : Nat, k ≤ R.m ∧ i = .int .i64 k ∧ X.ownsRow w.heap.size 3 1 v k (wints R.wn k) ∧ Below w.heap.size w X) (fun _ i _ => R.m - (intOf i).toNat)
  case atStart => exact ⟨0, by omega, rfl, World.ownsRow_nil _ _ _ _, Below.refl _ _⟩
  case round =>
    rename_i v i
    obtain ⟨k, hk, rfl, hown, hb⟩ := hrel
    have HO : Hid (World.ownsRow wr w.heap.size 3 1 _ k (wints R.wn k)) := hown
    have HB : Hid (Below w.heap.size w wr) := hb
    have c2 := (HR.out _ hb).2
    by_cases hlt : k < R.m
    · obtain ⟨rg, rc, e6, c3, c4⟩ := (HR.out _ hb).1.rowAt' hlt
      rw [HV.out] at e6
      injection e6 with e7 _ e8
      subst e7 e8
      have q0 : (0 : Int) ≤ (k : Int) := by omega
      have q1 : (k : Int) < (R.m : Int) := by omega
      clear hown hb
      go_wp2_with (at_builtin; refine wpList_append_lies _ rfl _ _ 34 rfl w.heap.size 3 i0 (.int .i64 0) 1 8 Try.underlying34 hi hz0 hz1 hz2 rfl (by decide) _ k (wints R.wn k) rfl (HO.out.alloc _) ⟨wr.heap.size, 0, none⟩ 1 1 [.int .i64 (R.wn k)] rfl rfl (one_src _ _ _ _ rfl) (by simp [Value.oneCell']) (by omega) (by unfold maxLen; omega) (by omega) (by have := HB.out.size; simp; omega) _ rfl ?_; intro g c w5 hown hgrow hat hlt; have HO5 : Hid (w5.ownsRow w.heap.size 3 1 (.slice (some ⟨g, 0, none⟩) (k + 1) c) (k + 1) (wints R.wn k ++ [.int .i64 (R.wn k)])) := hown; have HB5 : Hid (Below w.heap.size w w5) := (HB.out.alloc HB.out.size _).grown hgrow (by have := HB.out.size; simp; omega) (fun j hj => (World.ownsRow.lt HO.out j hj).1); clear hown hgrow hat hlt)
      go_roundw
      case rel => exact ⟨k + 1, by omega, by go_num, by rw [← wints_succ]; exact HO5.out, HB5.out⟩
      case measure => simp [intOf]; omega
    · have hkn : k = R.m := by omega
      subst hkn
      clear hown hb
      go_wp2
      go_ret
      rcases HO.out.2 with ⟨ev, e0⟩ | ⟨g, cap, cur, ev, _, hg, _⟩
      · exact ⟨none, 0, by rw [e0]; exact congrArg _ ev, fun k hk => by omega, HB.out⟩
      · have ho := HO.out
        rw [ev] at ho
        exact ⟨some ⟨g, 0, none⟩, cap, congrArg _ ev, fun k hk => ⟨g, rfl, by rw [(own_cell ho (j := k) (by omega)).1, wints_at _ hk], (World.ownsRow.lt ho g rfl).2⟩, HB.out⟩
theorem rcut_bad (r : Nat) (R : Rk) (k : Int) (w : World) (h : RepR w r R) (hk : k < 0 ∨ (0 ≤ k ∧ (R.m : Int) < k)) : Calls Try.prog 15 #[.pointer (some ⟨r, 0, none⟩), .int .i64 k] w fun e w' => e = .returned (.tuple #[.string ⟨#[]⟩, .int .i64 2]) ∧ Below w.heap.size w w' := by
  obtain ⟨fa, fc, wa, wc, _, _, c0, c1, hr⟩ := h.parts
  clear h
  rcases hk with h0 | ⟨h0, h1⟩
  all_goals
    go_enter Try.func15, Try.ntmps15
    go_wp2
    go_ret2
    exact ⟨rfl, by go_grown⟩
set_option maxHeartbeats 4000000 in
set_option maxRecDepth 20000 in
theorem rcut_good (r : Nat) (R : Rk) (k : Nat) (S : Nat → Nat → Int) (w : World) (h : RepR w r R) (hk : k ≤ R.m) (n0 : 8 ≤ R.n) (hS : ∀ i, i < R.n → lastR R k i = strF (S i) 1024 ∧ ByteF (S i)) : Calls Try.prog 15 #[.pointer (some ⟨r, 0, none⟩), .int .i64 k] w fun e w' => e = .returned (.tuple #[.string (strF (imgF S) (R.n * 1024)), .int .i64 0]) ∧ Below w.heap.size w w' := by
  obtain ⟨i0, hi, hz0, hz1, hz2⟩ := info_parts info5
  obtain ⟨fa, fc, wa, wc, e1, e2, c0, c1, hr⟩ := h.parts
  have hn := h.n1
  have HR : Hid (∀ X, Below w.heap.size w X → RepR X r R ∧ X.cell? ⟨r, 0, none⟩ = some (.slice fa R.n fc)) := fun X hX => ⟨h.below hX, by rw [← e1]; exact (h.below hX).cell0.1⟩
  have HS : Hid (∀ i, i < R.n → lastR R k i = strF (S i) 1024 ∧ ByteF (S i)) := hS
  have j0 : (0 : Int) ≤ (k : Int) := by omega
  have j1 : (k : Int) ≤ (R.m : Int) := by omega
  have j2 : ¬ R.m < k := by omega
  have j3 : decide (R.m < k) = false := decide_eq_false j2
  have j4 : ¬ (k : Int) < 0 := by omega
  clear h e1 e2 hS
  go_enter Try.func15, Try.ntmps15
  go_wp2
  go_loopw [6, 7] (fun v i X => ∃ j : Nat, j ≤ R.n ∧ i = .int .i64 j ∧ X.ownsRow w.heap.size 5 1 v (j * 1024) (rowOf (imgF S) (j * 1024)) ∧ Below w.heap.size w X) (fun _ i _ => R.n - (intOf i).toNat)
  case atStart => exact ⟨0, by omega, rfl, by rw [Nat.zero_mul]; exact World.ownsRow_nil _ _ _ _, Below.refl _ _⟩
  case round =>
    rename_i v i
    obtain ⟨j, hj, rfl, hown, hb⟩ := hrel
    have HO : Hid (World.ownsRow wr w.heap.size 5 1 _ (j * 1024) (rowOf (imgF S) (j * 1024))) := hown
    have HB : Hid (Below w.heap.size w wr) := hb
    have c2 := (HR.out _ hb).2
    by_cases hlt : j < R.n
    · have q0 : (0 : Int) ≤ (j : Int) := by omega
      have q1 : (j : Int) < (R.n : Int) := by omega
      clear hown hb
      go_wp2_with (first
        | (go_at_call 29; refine (rat_any r R j k _ (HR.out _ HB.out).1 hlt hk).mono ?_; rintro e w1 ⟨he, hb1⟩; rw [(HS.out j hlt).1] at he; obtain rfl := he; have H1 : Hid (Below wr.heap.size wr w1) := hb1; clear hb1)
        | (at_builtin; refine Lib.wpList_append_own_string _ rfl _ _ 43 9 rfl w.heap.size 5 i0 Try.underlying43 Try.underlying9 hi hz0 hz1 hz2 _ (j * 1024) (rowOf (imgF S) (j * 1024)) rfl (own_same HO.out (fun x hx => H1.out.block x (World.ownsRow.lt HO.out x hx).2)) (strF (S j) 1024) rfl (by rw [strF_size']; unfold maxLen; omega) (by rw [strF_size']; omega) (by have := HB.out.size; have := H1.out.size; omega) ?_; intro v5 w5 hown hgrow hnil; have HO5 : Hid (w5.ownsRow w.heap.size 5 1 v5 ((j + 1) * 1024) (rowOf (imgF S) ((j + 1) * 1024))) := (by rw [strF_size', strCells_row (HS.out j hlt).2, img_grow] at hown; rw [show (j + 1) * 1024 = j * 1024 + 1024 by omega]; exact hown); have HB5 : Hid (Below w.heap.size w w5) := (HB.out.trans (H1.out.mono HB.out.size)).grown hgrow (by have := HB.out.size; have := H1.out.size; omega) (fun x hx => (World.ownsRow.lt HO.out x hx).1); clear hown hgrow hnil))
      go_roundw
      case rel => first | exact ⟨j + 1, by omega, by go_num, HO5.out, HB5.out⟩ | exact ⟨v5, .int .i64 ((j : Int) + 1), _, _, _, _, _, _, _, _, _, _, _, _, _, _, _, ⟨j + 1, by omega, by go_num, HO5.out, HB5.out⟩, rfl⟩
      case measure => simp [intOf]; omega
    · have hjn : j = R.n := by omega
      subst hjn
      rcases HO.out.2 with ⟨ev, e0⟩ | ⟨g, cap, cur, ev, _, hg, _⟩
      · omega
      · subst ev
        have hx := conv_str (f := imgF S) (len := R.n * 1024) cap (own_rd HO.out (by unfold maxLen; omega) (fun i hi => (HS.out (i / 1024) (by omega)).2 (i % 1024) (by omega)))
        clear hown hb hg
        go_wp2
        go_ret2
        exact ⟨rfl, HB.out⟩
end Go.Proofs.Ythkpohlgekfnjaa
