/-
  The document's disk, made new or from an image.
-/
import Derived.Test.YtbkkjnafnckleaaBRef
import Derived.Deep.RegionLaw
namespace Go.Proofs.Ytbkkjnafnckleaa
open Go.ChangeShapes Go.WideShapes Go.ChangeAt Go.RowKit
attribute [local go_sem ↓] loadSec_seal storeSec_seal eqlSec_seal zeroSec
attribute [local go_sem] loadSec_run storeSec_run rowAt_at rowAt_old rowAt_drew rowAt_drewN roomSec_new roomAt_old roomAt_drew roomAt_drewN putSec_new putRow_past rowSec_put size_put putRow_drew putRow_drewN alloc_drewN setCell_drewN sec_size

set_option linter.unusedVariables false

theorem info9 : (Try.prog.info? 9).map (fun i => (i.zero, i.size, i.bytes)) = some (some (.string ⟨#[]⟩), 1, 16) := by kernel_rfl
theorem noughts_any (w : World) : Calls Try.prog 48 #[] w fun e w' => e = .returned (.string (strF (fun _ => 0) 1024)) ∧ Below w.heap.size w w' := by
  obtain ⟨i0, hi, hz0, hz1, hz2⟩ := info_parts info5
  go_enter Try.func48, Try.ntmps48
  go_wp2_with (at_make; refine wpList_make_full _ rfl _ _ 35 rfl w.heap.size 5 i0 (.int .u8 0) 1 Try.underlying35 hi hz0 hz1 .i64 .i64 _ _ 1024 rfl rfl rfl rfl (by rw [hz2]; decide) (by decide) (Nat.le_refl _) ?_; intro w2 hown2 hgrow2; have hx := conv_str 1024 ((BRow.made hown2).rd (by decide) (fun i _ => ⟨Int.le_refl _, show (0 : Int) ≤ 255 by decide⟩)); have HB : Hid (Below w.heap.size w w2) := (Below.refl _ w).grown hgrow2 (Nat.le_refl _) (fun k hk => by cases hk); clear hown2 hgrow2)
  go_ret
  exact ⟨rfl, HB.out⟩
def emptyR : Rk := { n := 0, F := fun _ => ⟨#[]⟩, fv := .slice none 0 0, m := 0, wn := fun _ => 0, C := fun _ => ⟨#[]⟩, wv := .slice none 0 0 }
theorem none_rep (w : World) (t : TypeId) : RepR (w.alloc (.cells #[.slice none 0 0, .slice none 0 0] t)) w.heap.size emptyR where
  n1 := by simp [emptyR]
  m1 := by simp [emptyR]
  blk := rowAt_new _ _ _ _
  room := roomAt_new _ _ _ _ _ rfl rfl
  first := World.ownsRow_nil _ _ _ _
  row := World.ownsRow_nil _ _ _ _
  d1 := fun x hx => by simp [emptyR, Value.ownBlock] at hx
  d2 := fun x hx => by simp [emptyR, Value.ownBlock] at hx
  lt := fun x hx => by
    rcases hx with rfl | hx | hx
    · simp
    · simp [emptyR, Value.ownBlock] at hx
    · simp [emptyR, Value.ownBlock] at hx
/-- The disk while its sectors are laid. -/
structure RIn (w : World) (r k : Nat) (s : Nat → ByteArray) (X : World) : Prop where
  ex : ∃ R, RepR X r R ∧ R.n = k ∧ R.m = 0 ∧ (∀ i, i < k → R.F i = s i) ∧ (∀ x, R.mut r x → w.heap.size ≤ x)
  below : Below w.heap.size w X
theorem RIn.start (w : World) (s : Nat → ByteArray) (t : TypeId) : RIn w w.heap.size 0 s (w.alloc (.cells #[.slice none 0 0, .slice none 0 0] t)) :=
  ⟨⟨emptyR, none_rep w t, rfl, rfl, fun i hi => by omega, fun x hx => by
    rcases hx with rfl | hx | hx
    · exact Nat.le_refl _
    · simp [emptyR, Value.ownBlock] at hx
    · simp [emptyR, Value.ownBlock] at hx⟩, (Below.refl _ w).alloc (Nat.le_refl _) _⟩
theorem RIn.step {w X Y w5 : World} {r k g c : Nat} {s : Nat → ByteArray} {R : Rk} {vs : Obj} (h : RIn w r k s X) (hk : k < 1024) (hb : Below X.heap.size X Y) (hR : RepR X r R) (hn : R.n = k) (hm : R.m = 0) (hF : ∀ i, i < k → R.F i = s i) (hmu : ∀ x, R.mut r x → w.heap.size ≤ x)
    (hown : w5.ownsRow 0 9 1 (.slice (some ⟨g, 0, none⟩) (R.n + 1) c) (R.n + 1) (strs R.F R.n ++ [.string (s k)])) (hgrow : (Y.alloc vs).grownBy w5 R.fv.ownBlock) (hat : R.fv.ownBlock = some g ∨ g = Y.heap.size + 1) : RIn w r (k + 1) s (w5.setCell ⟨r, 0, none⟩ (.slice (some ⟨g, 0, none⟩) (R.n + 1) c)) := by
  obtain ⟨h1, h2, h3⟩ := rep_first (hR.below hb) (by omega) hown hgrow hat
  have hbw : Below w.heap.size w Y := h.below.trans (hb.mono h.below.size)
  refine ⟨⟨_, h1, by show R.n + 1 = k + 1; omega, hm, fun i hi => ?_, fun x hx => ?_⟩, hbw.trans (h2.below hbw.size hmu)⟩
  · show upd R.F R.n (s k) i = s i
    by_cases e : i = R.n
    · rw [e, upd_at, hn]
    · rw [upd_ne _ _ e]; exact hF i (by omega)
  · rcases h3 x hx with h4 | h4
    · exact hmu x h4
    · have := hbw.size; omega
theorem back_cells {X Y w5 : World} {r : Nat} {R : Rk} {vs : Obj} (hR : RepR X r R) (hb : Below X.heap.size X Y) (hgrow : (Y.alloc vs).grownBy w5 R.fv.ownBlock) : w5.cell? ⟨r, 0, none⟩ = some R.fv ∧ w5.frozen? ⟨r, 0, none⟩ = false := by
  have hY := hR.below hb
  have r0 : r < Y.heap.size := hY.lt r (.inl rfl)
  have e : w5.heap[r]? = Y.heap[r]? := by
    rw [hgrow.block r (by simp; omega) (fun e => (hR.d1 r e.symm).1 rfl), Below.heap_alloc _ _ _ r0]
  exact ⟨(World.cell?_of_block e).trans hY.cell0.1, (World.frozen?_of_block e).trans hY.cell0.2⟩
theorem one_src (w : World) (x : Value) (t : TypeId) (k : Nat) (hk : k = w.heap.size) : ∀ j u, [x][j]? = some u → (w.alloc (.cells #[x] t)).cell? ((⟨k, 0, none⟩ : Addr).add j) = some u := by subst hk; exact cell_one_new w x t
theorem rnew_none (n : Int) (w : World) (h : isSizeB n = false) : Calls Try.prog 28 #[.int .i64 n] w fun e w' => e = .returned (.tuple #[.pointer none, .int .i64 30]) ∧ Below w.heap.size w w' := by
  have h2 : n < 8 ∨ (8 ≤ n ∧ 1024 < n) := by simp [isSizeB] at h; omega
  rcases h2 with h2 | ⟨h2, h3⟩
  all_goals
    go_enter Try.func28, Try.ntmps28
    go_wp2
    go_ret2
    exact ⟨rfl, by go_grown⟩
set_option maxHeartbeats 4000000 in
set_option maxRecDepth 20000 in
theorem rnew_some (n : Nat) (w : World) (n0 : 8 ≤ n) (n1 : n ≤ 1024) : Calls Try.prog 28 #[.int .i64 n] w fun e w' => ∃ r R, e = .returned (.tuple #[.pointer (some ⟨r, 0, none⟩), .int .i64 0]) ∧ RepR w' r R ∧ R.n = n ∧ R.m = 0 ∧ (∀ i, i < n → R.F i = strF (fun _ => 0) 1024) ∧ (∀ x, R.mut r x → w.heap.size ≤ x) ∧ Below w.heap.size w w' := by
  obtain ⟨i0, hi, hz0, hz1, hz2⟩ := info_parts info9
  go_enter Try.func28, Try.ntmps28
  go_wp2
  go_loopw [5] (fun i X => ∃ k : Nat, k ≤ n ∧ i = .int .i64 k ∧ RIn w w.heap.size k (fun _ => strF (fun _ => 0) 1024) X) (fun i _ => n - (intOf i).toNat)
  case atStart => exact ⟨0, by omega, rfl, RIn.start w _ _⟩
  case round =>
    obtain ⟨k, hk, rfl, hX⟩ := hrel
    have HX : Hid _ := hX
    by_cases hlt : k < n
    · obtain ⟨R, hR, hn, hm, hF, hmu⟩ := hX.ex
      obtain ⟨c0, f0⟩ := hR.cell0
      obtain ⟨fa, fc, hfv⟩ := ownV hR.first
      have HR : Hid (RepR _ w.heap.size R ∧ R.n = k ∧ R.m = 0 ∧ (∀ i, i < k → R.F i = strF (fun _ => 0) 1024) ∧ (∀ x, R.mut w.heap.size x → w.heap.size ≤ x) ∧ R.fv = .slice fa R.n fc) := ⟨hR, hn, hm, hF, hmu, hfv⟩
      have r0 : w.heap.size < _ := hR.lt _ (.inl rfl)
      have j0 : (k : Int) < (n : Int) := by omega
      clear hR hn hm hF hmu hX hfv
      go_wp2
      go_region_law (first | (refine step_append_lies _ rfl _ _ 56 rfl 0 9 i0 (.string ⟨#[]⟩) 1 16 Try.underlying56 hi hz0 hz1 hz2 rfl (by decide) R.fv R.n (strs R.F R.n) rfl (own_same (HR.out.1.below HB1.out).first (fun x hx => Below.heap_alloc _ _ _ ((HR.out.1.below HB1.out).lt x (.inr (.inl hx))))) ⟨w1.heap.size, 0, none⟩ 1 1 [.string (strF (fun _ => 0) 1024)] rfl rfl (one_src _ _ _ _ rfl) (by simp [Value.oneCell']) (by omega) (by unfold maxLen; have := HR.out.2.1; omega) (by have := HR.out.2.1; omega) (Nat.zero_le _) _ rfl ?_; intro g c w5 hown hgrow hat hlt; obtain ⟨d0, d1⟩ := back_cells HR.out.1 HB1.out hgrow; have HS : Hid (RIn w w.heap.size (k + 1) (fun _ => strF (fun _ => 0) 1024) (w5.setCell ⟨w.heap.size, 0, none⟩ (.slice (some ⟨g, 0, none⟩) (R.n + 1) c))) := HX.out.step (by omega) HB1.out HR.out.1 HR.out.2.1 HR.out.2.2.1 HR.out.2.2.2.1 HR.out.2.2.2.2.1 hown hgrow (hat.imp id (fun h => by simpa using h)); clear hown hgrow hat hlt) | (go_simp; go_at_call 48; refine (noughts_any _).mono ?_; rintro e w1 ⟨rfl, hb1⟩; have HB1 : Hid (Below wr.heap.size wr w1) := ((Below.refl _ wr).drew).trans hb1; have c1 := (HR.out.1.below HB1.out).cell0.1; have r1 : w.heap.size < w1.heap.size := (HR.out.1.below HB1.out).lt _ (.inl rfl); clear hb1))
      all_goals
        go_wp2
        go_roundw
        case rel => exact ⟨k + 1, by omega, by go_num, HS.out⟩
        case measure => simp [intOf]; omega
    · have hkn : k = n := by omega
      subst hkn
      obtain ⟨R, hR, hn, hm, hF, hmu⟩ := hX.ex
      have HR : Hid (RepR _ w.heap.size R ∧ R.n = k ∧ R.m = 0 ∧ (∀ i, i < k → R.F i = strF (fun _ => 0) 1024) ∧ (∀ x, R.mut w.heap.size x → w.heap.size ≤ x)) := ⟨hR, hn, hm, hF, hmu⟩
      clear hX hR hn hm hF hmu
      go_wp2
      go_ret2
      exact ⟨w.heap.size, R, rfl, HR.out.1, HR.out.2.1, HR.out.2.2.1, HR.out.2.2.2.1, HR.out.2.2.2.2, HX.out.below⟩
end Go.Proofs.Ytbkkjnafnckleaa
