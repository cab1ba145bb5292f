/-
  How many sectors a disk has; its writes in order.
-/
import Derived.Test.YtmjflbleobmjdaaGreatDoorDx
namespace Go.Proofs.YtmjflbleobmjdaaGreatDoor
open Go.ChangeShapes Go.WideShapes Go.ChangeAt Go.RowKit
attribute [local go_sem ↓] loadSec_seal storeSec_seal eqlSec_seal zeroSec
attribute [local go_sem] loadSec_run storeSec_run rowAt_at rowAt_old rowAt_drew rowAt_drewN roomSec_new roomAt_old roomAt_drew roomAt_drewN putSec_new putRow_past rowSec_put size_put putRow_drew putRow_drewN alloc_drewN setCell_drewN sec_size

set_option linter.unusedVariables false

theorem sectors_any (b : Nat) (D : Dk) (w : World) (h : Rep w b D) : Calls Tryz.prog 29 #[.pointer (some ⟨b, 0, none⟩)] w fun e w' => e = .returned (.int .i64 D.n) ∧ Below w.heap.size w w' := by
  have h1 := (h.cell 1).trans D.at1
  clear h
  go_enter Tryz.func29, Tryz.ntmps29
  go_wp2
  go_ret
  exact ⟨rfl, by go_grown⟩
theorem wcells_at (wn wp : Nat → Nat) {k : Nat} : ∀ m, k < m → (wcells wn wp m)[k * 2]? = some (.int .i64 (wn k)) ∧ (wcells wn wp m)[k * 2 + 1]? = some (.pointer (some ⟨wp k, 0, none⟩))
  | 0, h => by omega
  | m + 1, h => by
    rw [wcells]
    by_cases e : k = m
    · subst e
      have hl := wcells_len wn wp k
      rw [List.getElem?_append_right (by omega), List.getElem?_append_right (by omega), hl]
      simp
    · have hl := wcells_len wn wp m
      rw [List.getElem?_append_left (by omega), List.getElem?_append_left (by omega)]
      exact wcells_at wn wp m (by omega)
theorem Rep.rowAt' {w : World} {b : Nat} {D : Dk} (h : Rep w b D) {k : Nat} (hk : k < D.m) : ∃ rg rc, D.rv = .slice (some ⟨rg, 0, none⟩) D.m rc ∧ D.m ≤ rc ∧ rg < w.heap.size ∧ w.cell? ⟨rg, k * 2, none⟩ = some (.int .i64 (D.wn k)) ∧ w.cell? ⟨rg, k * 2 + 1, none⟩ = some (.pointer (some ⟨D.wp k, 0, none⟩)) := by
  have hr := h.row
  rcases hr.2 with ⟨_, e0⟩ | ⟨g, cap, cur, e, _, _, h4, _⟩
  · omega
  · rw [e] at hr
    have h2 := wcells_at D.wn D.wp D.m hk
    refine ⟨g, cap, e, h4, (hr.lt g rfl).2, ?_, ?_⟩
    · rw [(own_cell hr (j := k * 2) (by omega)).1]; exact h2.1
    · rw [(own_cell hr (j := k * 2 + 1) (by omega)).1]; exact h2.2
/-- A row of values, filled up to k. -/
structure FillV (w : World) (G n k : Nat) (t : TypeId) (v : Nat → Value) (X : World) : Prop where
  below : Below w.heap.size w X
  old : w.heap.size ≤ G
  row : ∃ cur : Array Value, X.heap[G]? = some (.cells cur t (0, 0)) ∧ cur.size = n ∧ ∀ i, i < k → cur[i]? = some (v i)
theorem FillV.lt {w X : World} {G n k : Nat} {t : TypeId} {v : Nat → Value} (h : FillV w G n k t v X) : G < X.heap.size := by
  obtain ⟨cur, hg, _⟩ := h.row
  rcases Nat.lt_or_ge G X.heap.size with h1 | h1
  · exact h1
  · rw [Array.getElem?_eq_none h1] at hg; cases hg
theorem FillV.at {w X : World} {G n k : Nat} {t : TypeId} {v : Nat → Value} (h : FillV w G n k t v X) (hk : k < n) : (∃ v, X.cell? ⟨G, k, none⟩ = some v) ∧ X.frozen? ⟨G, k, none⟩ = false := by
  obtain ⟨cur, hg, hs, _⟩ := h.row
  refine ⟨⟨cur[k]'(by omega), ?_⟩, by simp [World.frozen?, hg]⟩
  rw [cell_of_row X G k cur _ (0, 0) hg]; simp [hs, hk]
theorem FillV.alloc {w X : World} {G n k : Nat} {t : TypeId} {v : Nat → Value} (h : FillV w G n k t v X) (o : Obj) : FillV w G n k t v (X.alloc o) := by
  obtain ⟨cur, hg, hs, hc⟩ := h.row
  exact ⟨h.below.alloc h.below.size _, h.old, cur, (Below.heap_alloc _ _ _ h.lt).trans hg, hs, hc⟩
theorem FillV.step {w X : World} {G n k : Nat} {t : TypeId} {v : Nat → Value} (h : FillV w G n k t v X) (hk : k < n) : FillV w G n (k + 1) t v (X.setCell ⟨G, k, none⟩ (v k)) := by
  obtain ⟨cur, hg, hs, hc⟩ := h.row
  refine ⟨h.below.setCell h.old _, h.old, cur.setIfInBounds k (v k), Go.Joins.block_setCell (i := k) hg _, by simpa using hs, fun i hi => ?_⟩
  by_cases e : i = k
  · subst e; simp [hs, hk]
  · rw [Array.getElem?_setIfInBounds_ne (Ne.symm e)]; exact hc i (by omega)
theorem FillV.start {w w1 : World} {n : Nat} {t : TypeId} {L : List Value} (v : Nat → Value) (h : w1.ownsRow w.heap.size t 1 (.slice (some ⟨w.heap.size, 0, none⟩) n n) n L) (hg : w.grownBy w1 none) : FillV w w.heap.size n 0 t v w1 := by
  refine ⟨(Below.refl _ w).grown hg (Nat.le_refl _) (fun k hk => by cases hk), Nat.le_refl _, ?_⟩
  rcases h.2 with ⟨h0, _⟩ | ⟨g', cap, cur, hv, _, hg, _, _, hs, ht⟩
  · simp at h0
  · simp at hv
    obtain ⟨rfl, rfl⟩ := hv
    exact ⟨cur, hg, by omega, fun i hi => by omega⟩
theorem FillV.cells {w X : World} {G n : Nat} {t : TypeId} {v : Nat → Value} (h : FillV w G n n t v X) {i : Nat} (hi : i < n) : X.cell? ⟨G, i, none⟩ = some (v i) := by
  obtain ⟨cur, hg, hs, hc⟩ := h.row
  rw [cell_of_row X G i cur _ (0, 0) hg, hc i hi]
theorem info3 : (Tryz.prog.info? 3).map (fun i => (i.zero, i.size, i.bytes)) = some (some (.int .i64 0), 1, 8) := by kernel_rfl
set_option maxHeartbeats 1000000 in
theorem writes_any (b : Nat) (D : Dk) (w : World) (h : Rep w b D) : Calls Tryz.prog 49 #[.pointer (some ⟨b, 0, none⟩)] w fun e w' => ∃ g, e = .returned (.slice (some ⟨g, 0, none⟩) D.m D.m) ∧ (∀ k, k < D.m → w'.cell? ⟨g, k, none⟩ = some (.int .i64 (D.wn k))) ∧ w.heap.size ≤ g ∧ g < w'.heap.size ∧ Below w.heap.size w w' := by
  obtain ⟨i0, hi, hz0, hz1, hz2⟩ := info_parts info3
  obtain ⟨ra, rcap, hv⟩ := h.rowV
  have hm := h.m1
  have h2 : w.cell? ⟨b, 2, none⟩ = some (.slice ra D.m rcap) := by rw [← hv]; exact (h.cell 2).trans D.at2
  have hb0 : b < w.heap.size := h.lt b (.inl (.inl rfl))
  have HC : Hid (∀ X k, Below w.heap.size w X → k < D.m → ∃ rg, ra = some ⟨rg, 0, none⟩ ∧ rg < w.heap.size ∧ X.cell? ⟨rg, k * 2, none⟩ = some (.int .i64 (D.wn k)) ∧ X.cell? ⟨rg, k * 2 + 1, none⟩ = some (.pointer (some ⟨D.wp k, 0, none⟩))) := fun X k hX hk => by
    obtain ⟨rg, rc, e, _, hl, c1, c2⟩ := h.rowAt' hk
    rw [hv] at e
    injection e with e1 _ _
    exact ⟨rg, e1, hl, (hX.cell (p := ⟨rg, k * 2, none⟩) hl).trans c1, (hX.cell (p := ⟨rg, k * 2 + 1, none⟩) hl).trans c2⟩
  have H2 : Hid (∀ X, Below w.heap.size w X → X.cell? ⟨b, 2, none⟩ = some (.slice ra D.m rcap)) := fun X hX => (hX.cell (p := ⟨b, 2, none⟩) hb0).trans h2
  clear h hv
  go_enter Tryz.func49, Tryz.ntmps49
  go_wp2_with (at_make; refine wpList_make_full _ rfl _ _ 49 rfl w.heap.size 3 i0 (.int .i64 0) 1 Tryz.underlying49 hi hz0 hz1 .i64 .i64 _ _ D.m rfl rfl rfl rfl (by rw [hz2]; omega) (by unfold maxLen; omega) (by simp) ?_; intro w2 hown2 hgrow2; have HF : Hid (FillV w w.heap.size D.m 0 3 (fun k => .int .i64 (D.wn k)) w2) := FillV.start _ hown2 hgrow2; have c2 := H2.out _ HF.out.below; clear hown2 hgrow2)
  go_loopw [19] (fun i X => ∃ k : Nat, k ≤ D.m ∧ i = .int .i64 k ∧ FillV w w.heap.size D.m k 3 (fun k => .int .i64 (D.wn k)) X) (fun i _ => D.m - (intOf i).toNat)
  case atStart => exact ⟨0, by omega, rfl, HF.out⟩
  case round =>
    obtain ⟨k, hk, rfl, hX⟩ := hrel
    have HX : Hid _ := hX
    by_cases hlt : k < D.m
    · obtain ⟨rg, rfl, hrg, c3, c4⟩ := HC.out _ k hX.below hlt
      obtain ⟨⟨v0, c5⟩, c6⟩ := hX.at hlt
      have hl := hX.lt
      have hrl : rg < _ := Nat.lt_of_lt_of_le hrg hX.below.size
      have j0 : (0 : Int) ≤ (k : Int) := by omega
      have j1 : (k : Int) < (D.m : Int) := by omega
      clear hX HF HC H2
      go_wp2
      go_roundw
      case rel => exact ⟨k + 1, by omega, by go_num, (HX.out.step hlt).alloc _⟩
      case measure => simp [intOf]; omega
    · obtain e : k = D.m := by omega
      clear hX HC H2
      go_wp2
      go_ret
      rw [e] at HX
      exact ⟨w.heap.size, by simp, fun k hk => HX.out.cells hk, Nat.le_refl _, HX.out.lt, HX.out.below⟩
end Go.Proofs.YtmjflbleobmjdaaGreatDoor
