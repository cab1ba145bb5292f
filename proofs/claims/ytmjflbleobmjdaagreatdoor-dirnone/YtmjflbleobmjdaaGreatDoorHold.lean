/-
  Rows of sectors' places, copied; a sector of given bytes; a new disk.
-/
import Derived.Test.YtmjflbleobmjdaaGreatDoorFirst
import Derived.Lib.SliceRun
namespace Go.Proofs.YtmjflbleobmjdaaGreatDoor
open Go.ChangeShapes Go.WideShapes Go.ChangeAt Go.RowKit
attribute [local go_sem ↓] loadSec_seal storeSec_seal eqlSec_seal zeroSec
attribute [local go_sem] loadSec_run storeSec_run rowAt_at rowAt_old rowAt_drew rowAt_drewN roomSec_new roomAt_old roomAt_drew roomAt_drewN putSec_new putRow_past rowSec_put size_put putRow_drew putRow_drewN alloc_drewN setCell_drewN sec_size

set_option linter.unusedVariables false

theorem rowAt_lt {w : World} {b : Nat} {X : Array Value} (h : rowAt w b = some X) : b < w.heap.size := by
  rcases Nat.lt_or_ge b w.heap.size with h1 | h1
  · exact h1
  · unfold rowAt at h; rw [Array.getElem?_eq_none h1] at h; cases h
def ptrs (p : Nat → Nat) (n : Nat) : List Value := (List.range n).map fun i => .pointer (some ⟨p i, 0, none⟩)
theorem ptrs_len (p : Nat → Nat) (n : Nat) : (ptrs p n).length = n := by simp [ptrs]
theorem ptrs_at (p : Nat → Nat) {n i : Nat} (h : i < n) : (ptrs p n)[i]? = some (.pointer (some ⟨p i, 0, none⟩)) := by simp [ptrs, h]
theorem ptrs_one (p : Nat → Nat) (n : Nat) : ∀ u ∈ ptrs p n, u.oneCell' = true := by
  intro u hu
  simp [ptrs] at hu
  obtain ⟨i, _, rfl⟩ := hu
  rfl
theorem add_lit0 (g j : Nat) : (⟨g, 0, none⟩ : Addr).add j = ⟨g, j, none⟩ := by rw [Addr.add_mid, Nat.zero_add]
theorem ptrs_src {w : World} {g n : Nat} {p : Nat → Nat} (h : ∀ i, i < n → w.cell? ⟨g, i, none⟩ = some (.pointer (some ⟨p i, 0, none⟩))) : ∀ j u, (ptrs p n)[j]? = some u → w.cell? ((⟨g, 0, none⟩ : Addr).add j) = some u := by
  intro j u hj
  rw [add_lit0]
  have hl : j < n := by
    have := (List.getElem?_eq_some_iff.1 hj).1
    simpa [ptrs] using this
  rw [h j hl, ← hj, ptrs_at p hl]
theorem info58 : (Tryz.prog.info? 78).map (fun i => (i.zero, i.size, i.bytes)) = some (some (.pointer none), 1, 8) := by kernel_rfl
theorem info5 : (Tryz.prog.info? 5).map (fun i => (i.zero, i.size, i.bytes)) = some (some (.int .u8 0), 1, 1) := by kernel_rfl
theorem size5 : (Tryz.prog.info? 5).map (·.size) = some 1 := by kernel_rfl
theorem size58 : (Tryz.prog.info? 78).map (·.size) = some 1 := by kernel_rfl
theorem clone_any (g n cap : Nat) (p : Nat → Nat) (w : World) (n0 : 0 < n) (n1 : n ≤ 1024) (hc : ∀ i, i < n → w.cell? ⟨g, i, none⟩ = some (.pointer (some ⟨p i, 0, none⟩))) :
    Calls Tryz.prog 66 #[.slice (some ⟨g, 0, none⟩) n cap] w fun e w' => ∃ h c, e = .returned (.slice (some ⟨h, 0, none⟩) n c) ∧ w'.ownsRow 0 78 1 (.slice (some ⟨h, 0, none⟩) n c) n (ptrs p n) ∧ w.heap.size ≤ h ∧ h < w'.heap.size ∧ Below w.heap.size w w' := by
  obtain ⟨i0, hi, hz0, hz1, hz2⟩ := info_parts info58
  have hg := World.block_lt_of_cell? _ _ (hc 0 n0)
  simp only [] at hg
  have HC : Hid (∀ o : Obj, ∀ j u, (ptrs p n)[j]? = some u → (w.alloc o).cell? ((⟨g, 0, none⟩ : Addr).add j) = some u) := fun o j u hj => by
    have := ptrs_src hc j u hj
    rw [add_lit0] at this ⊢
    rw [World.cell?_alloc_old _ _ _ (Nat.ne_of_lt hg)]; exact this
  have heq : ∀ w', (binOp .eql 77 (.slice (some ⟨g, 0, none⟩) n cap) (.slice none 0 0)).run Tryz.prog w' = .ok (.bool false) w' := fun w' => Lib.run_eql_slice_nil w' _ _ _ _ _ _ _ Tryz.underlying77
  clear hc
  go_enter Tryz.func66, Tryz.ntmps66
  go_wp2_with (at_builtin; refine wpList_append_lies _ rfl _ _ 77 rfl w.heap.size 78 i0 (.pointer none) 1 8 Tryz.underlying77 hi hz0 hz1 hz2 rfl (by decide) _ 0 [] rfl (World.ownsRow_made w #[] 0 (Nat.le_refl _) (by decide) rfl) ⟨g, 0, none⟩ n cap (ptrs p n) rfl (by simp [ptrs]) (HC.out _) (ptrs_one p n) n0 (by unfold maxLen; omega) (by omega) (by simp) _ rfl ?_; intro h c w1 hown hgrow hat hlt)
  go_ret
  have hb : Below w.heap.size w w1 := ((Below.refl _ w).alloc (Nat.le_refl _) _).grown hgrow (by simp) (fun k hk => Nat.le_of_eq (Option.some.inj (show some w.heap.size = some k from hk)))
  refine ⟨h, c, by simp, ?_, ?_, hlt, hb⟩
  · simp only [Nat.zero_add, List.nil_append] at hown
    exact ⟨hown.1, hown.2.imp id fun ⟨g', cap', cur, a1, a2, a3⟩ => ⟨g', cap', cur, a1, Nat.zero_le _, a3⟩⟩
  · rcases hat with e | e
    · exact Nat.le_of_eq (Option.some.inj (show some w.heap.size = some h from e))
    · simp at e; omega

theorem copy_sec (w : World) (b off cap : Nat) (f : Nat → Int) (hb : b < w.heap.size) (hc : ∀ i, i < 1024 → w.cell? ⟨b, off + i, none⟩ = some (.int .u8 (f i))) :
    (Builtin.copy_ #[71, 71] 3 #[.slice (some ⟨w.heap.size, 0, none⟩) 1024 1024, .slice (some ⟨b, off, none⟩) 1024 cap]).run Tryz.prog (w.alloc (.cells (sec fun _ => 0) 80)) = .ok (.int .i64 1024) (w.alloc (.cells (sec f) 80)) := by
  have hl : (rowOf f 1024).length = 1024 := rowOf_len f 1024
  have e := run_copy_row (P := Tryz.prog) (w.alloc (.cells (sec fun _ => 0) 80)) 71 71 3 5 w.heap.size 0 1024 1024 ⟨b, off, none⟩ 1024 cap (sec fun _ => 0) 80 (rowOf f 1024) Tryz.underlying71 size5 (heap_alloc_last w _) (by rw [hl]; rfl)
    (fun j v hj => by
      have hjl : j < 1024 := by have := (List.getElem?_eq_some_iff.1 hj).1; rwa [hl] at this
      rw [Addr.add_mid, World.cell?_alloc_old _ _ _ (Nat.ne_of_lt hb), hc j hjl, ← hj, rowOf_at f hjl]) (by rw [hl, sec_size]; decide) (row_one f 1024)
  rw [hl, World.setRow_alloc_new] at e
  have e2 : (List.take 0 (sec fun _ => 0).toList ++ rowOf f 1024 ++ List.drop (0 + 1024) (sec fun _ => 0).toList).toArray = sec f := by
    rw [List.take_zero, List.nil_append, List.drop_eq_nil_of_le (by rw [sec_toList, rowOf_len]; decide), List.append_nil]; rfl
  rw [e2] at e
  exact e
theorem holding_any (a : Option Addr) (cap : Nat) (f g : Nat → Int) (t : Nat) (w : World) (hr : RdB w a 1024 f) (ht : rowAt w t = some (sec g)) (hg : ByteF g) :
    Calls Tryz.prog 62 #[.slice a 1024 cap, .pointer (some ⟨t, 0, none⟩)] w fun e w' => ∃ p, e = .returned (.pointer (some ⟨p, 0, none⟩)) ∧ rowAt w' p = some (sec f) ∧ (p = t ∨ p = w.heap.size) ∧ p < w'.heap.size ∧ Below w.heap.size w w' := by
  rcases hr.2 with h | ⟨b, off, rfl, hc⟩
  · omega
  have hb := World.block_lt_of_cell? _ _ (hc 0 (by omega)).1
  simp only [] at hb
  have hcp := copy_sec w b off cap f hb (fun i hi => (hc i hi).1)
  have htl := rowAt_lt ht
  have hne : t ≠ w.heap.size := by omega
  obtain ⟨r, hr1, hr2⟩ := eql_sec f g (fun i hi => (hc i hi).2) hg
  have HI : Hid (r = true ↔ ∀ i, i < 1024 → f i = g i) := hr2
  have HT : Hid (rowAt w t = some (sec g)) := ht
  clear hr hc hr2 hb
  cases r
  · go_enter Tryz.func62, Tryz.ntmps62
    go_wp2
    go_region
    all_goals
      go_wp2
      go_ret
      exact ⟨w.heap.size, rfl, by simp [go_sem], .inr rfl, by simp, by go_grown⟩
  · go_enter Tryz.func62, Tryz.ntmps62
    go_wp2
    go_region
    all_goals
      go_wp2
      go_ret
      refine ⟨t, rfl, ?_, .inl rfl, by simp; omega, by go_grown⟩
      simp only [rowAt_drew]
      rw [rowAt_old _ _ _ hne, HT.out, sec_ext (HI.out.1 (by simp))]
end Go.Proofs.YtmjflbleobmjdaaGreatDoor
