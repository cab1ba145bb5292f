/-
  Layer 7: the writer's function for a procedure: where it begins, its name, whether it is exported.
-/
import Derived.Test.YtmfdomabegaidaaWcl
namespace Go.Proofs.Ytmfdomabegaidaa
set_option linter.unusedVariables false
set_option linter.unusedSimpArgs false
open Go.ChangeShapes Go.WideShapes Go.ChangeAt Go.RowKit

/-- What stands while a procedure is written. -/
structure Wp (v X0 X : World) (p B q ob nb : Nat) (c : Oc) (l : List Int) : Prop where
  wr : Wr X p B l
  wb : Wb X p B q ob nb c
  wk : Wk X0 X p
  be : Below v.heap.size v X
theorem Wp.next {v X0 X Y : World} {p B q ob nb : Nat} {c : Oc} {l l' : List Int} (h : Wp v X0 X p B q ob nb c l) (hv : v.heap.size ≤ p) (hw : Wr Y p B l') (hk : Wk X Y p) : Wp v X0 Y p B q ob nb c l' := ⟨hw, h.wb.wk h.wr hk, h.wk.trans hk, hk.bel h.wr hv h.be⟩
theorem Wr.drew {X : World} {p B : Nat} {l : List Int} (h : Wr X p B l) : Wr X.drew p B l := h.below (Below.refl _ _).drew
theorem Wp.drew {v X0 X : World} {p B q ob nb : Nat} {c : Oc} {l : List Int} (h : Wp v X0 X p B q ob nb c l) : Wp v X0 X.drew p B q ob nb c l := ⟨h.wr.drew, h.wb.below (Below.refl _ _).drew, h.wk.trans (Wk.below h.wr.pl (Below.refl _ _).drew), h.be.drew⟩
set_option maxHeartbeats 4000000 in
set_option maxRecDepth 20000 in
theorem cl_w4 (v X : World) (p B q ob nb : Nat) (c : Oc) (l : List Int) (h : Wr X p B l) (hb : Wb X p B q ob nb c) (hv : v.heap.size ≤ p) (hbe : Below v.heap.size v X) (names : List ByteArray) (exps : List Bool) (hna : RdV v 1 c.na names.length (names.map Value.string)) (hex : RdV v 1 c.ex exps.length (exps.map Value.bool)) (i : Nat) (hi : i < names.length) (hi2 : i < exps.length) (x : Int × ByteArray × Bool) (hx1 : names[i] = x.2.1) (hx2 : exps[i] = x.2.2) (h1 : 0 ≤ x.1 ∧ x.1 ≤ 4294967295) (h2 : x.2.1.size ≤ 1000) (hl : l.length + (prcL x).length ≤ 800000000) :
    Calls Try.prog 66 #[.int .i64 (i : Int), .int .i64 x.1, .pointer (some ⟨q, 0, none⟩), .pointer (some ⟨ob, 0, none⟩)] X (PostZ X p B (l ++ prcL x)) := by
  have hl1 : (prcL x).length = (numL 4 x.1).length + (textL x.2.1).length + 1 := by unfold prcL; simp only [List.length_append, List.length_cons, List.length_nil]; omega
  have hfl : l ++ prcL x = l ++ numL 4 x.1 ++ textL x.2.1 ++ [if x.2.2 then 1 else 0] := by unfold prcL; simp only [List.append_assoc]
  have P0 : Hid (Wp v X X p B q ob nb c l) := ⟨h, hb, Wk.refl _ _, hbe⟩
  rw [hfl]
  rcases hna.at_ with e0 | ⟨g, off, ha, hgl, _⟩
  · omega
  rcases hex.at_ with e0 | ⟨g2, off2, ha2, hgl2, _⟩
  · omega
  have hn1 : (i : Int) < (c.na.n : Int) := by rw [hna.len]; omega
  have hn2 : (i : Int) < (c.ex.n : Int) := by rw [hex.len]; omega
  have hn3 : i < c.na.n := by rw [hna.len]; omega
  have hn4 : i < c.ex.n := by rw [hex.len]; omega
  have j0 : (0 : Int) ≤ (i : Int) := by omega
  have E : Hid (∀ Y l', Wp v X Y p B q ob nb c l' → Y.cell? ⟨q, 0, none⟩ = some (.pointer (some ⟨p, 0, none⟩)) ∧ Y.cell? ⟨ob, 5, none⟩ = some (.slice (some ⟨g, off, none⟩) c.na.n c.na.c) ∧ Y.cell? ⟨ob, 6, none⟩ = some (.slice (some ⟨g2, off2, none⟩) c.ex.n c.ex.c) ∧ Y.cell? ⟨g, off + i, none⟩ = some (.string x.2.1) ∧ Y.cell? ⟨g2, off2 + i, none⟩ = some (.bool x.2.2)) := fun Y l' hY => by
    refine ⟨blk_cell hY.wb.wq 0, by rw [← ha]; exact blk_cell hY.wb.oo 5, by rw [← ha2]; exact blk_cell hY.wb.oo 6, ?_, ?_⟩
    · exact (hna.below hY.be).cell ha (by omega) (by rw [List.getElem?_map, List.getElem?_eq_getElem hi, hx1]; rfl)
    · exact (hex.below hY.be).cell ha2 (by omega) (by rw [List.getElem?_map, List.getElem?_eq_getElem hi2, hx2]; rfl)
  have NZ : Hid (∀ Y, Wp v X Y p B q ob nb c l → Calls Try.prog 58 #[.pointer (some ⟨p, 0, none⟩), .int .i64 x.1] Y fun e Z => e = .returned (.tuple #[]) ∧ Wp v X Z p B q ob nb c (l ++ numL 4 x.1)) := fun Y hY => (number_z Y p B l hY.wr x.1 h1.1 h1.2 (by omega)).mono fun e Z hh => ⟨hh.1, hY.next hv hh.2.1 hh.2.2⟩
  have TZ : Hid (∀ Y, Wp v X Y p B q ob nb c (l ++ numL 4 x.1) → Calls Try.prog 59 #[.pointer (some ⟨p, 0, none⟩), .string x.2.1] Y fun e Z => e = .returned (.tuple #[]) ∧ Wp v X Z p B q ob nb c (l ++ numL 4 x.1 ++ textL x.2.1)) := fun Y hY => (text_z Y p B _ hY.wr x.2.1 h2 (by simp only [List.length_append]; omega)).mono fun e Z hh => ⟨hh.1, hY.next hv hh.2.1 hh.2.2⟩
  have FZ : Hid (∀ Y, Wp v X Y p B q ob nb c (l ++ numL 4 x.1 ++ textL x.2.1) → Calls Try.prog 67 #[.pointer (some ⟨p, 0, none⟩), .bool x.2.2] Y fun e Z => e = .returned (.tuple #[]) ∧ Wp v X Z p B q ob nb c (l ++ numL 4 x.1 ++ textL x.2.1 ++ [if x.2.2 then 1 else 0])) := fun Y hY => (flag_z Y p B _ hY.wr x.2.2 (by simp only [List.length_append]; omega)).mono fun e Z hh => ⟨hh.1, hY.next hv hh.2.1 hh.2.2⟩
  clear hna hex hx1 hx2 hfl h hb
  obtain ⟨a, s, f⟩ := x
  simp only at *
  generalize l ++ numL 4 a ++ textL s ++ [if f = true then 1 else 0] = l3 at *
  have q0 := (E.out _ _ P0.out).1
  go_enter Try.func66, Try.ntmps66
  go_wp2_with (go_at_call 58; refine (NZ.out _ P0.out).mono ?_; rintro e w1 ⟨rfl, p1⟩; have P1 := hid_of p1; clear p1)
  refine wp_region_held_drew (S := (fun Y => ∃ l', Wp v X Y p B q ob nb c l')) (by kernel_rfl) ⟨_, P1.out.drew⟩ (fun hHeld => ?_)
  refine wpAnyH_take (i := 0) (v := ?_) rfl (by kernel_rfl) (by kernel_rfl) (by kernel_rfl) (fun _ _ _ h => h) (Or.inl ⟨by kernel_rfl, ?y0a⟩) hHeld ?r0a
  case y0a => (intro wq hSw; obtain ⟨l9, hSw⟩ := hSw; have q := (E.out wq _ hSw).1; go_simp; try rfl)
  simp only [Act.put, List.setIfInBounds_toArray, List.set_cons_zero, List.set_cons_succ]
  refine wpAnyH_take (i := 1) (v := ?_) rfl (by kernel_rfl) (by kernel_rfl) (by kernel_rfl) (fun _ _ _ h => h) (Or.inl ⟨by kernel_rfl, ?y1a⟩) hHeld ?r1a
  case y1a => (intro wq hSw; go_simp; try rfl)
  simp only [Act.put, List.setIfInBounds_toArray, List.set_cons_zero, List.set_cons_succ]
  refine wpAnyH_take (i := 2) (v := ?_) rfl (by kernel_rfl) (by kernel_rfl) (by kernel_rfl) (fun _ _ _ h => h) (Or.inl ⟨by kernel_rfl, ?y2a⟩) hHeld ?r2a
  case y2a => (intro wq hSw; obtain ⟨l9, hSw⟩ := hSw; have q := (E.out wq _ hSw).2.1; go_simp; try rfl)
  simp only [Act.put, List.setIfInBounds_toArray, List.set_cons_zero, List.set_cons_succ]
  refine wpAnyH_take (i := 3) (v := ?_) rfl (by kernel_rfl) (by kernel_rfl) (by kernel_rfl) (fun _ _ _ h => h) (Or.inl ⟨by kernel_rfl, ?y3a⟩) hHeld ?r3a
  case y3a => (intro wq hSw; go_simp; try rfl)
  simp only [Act.put, List.setIfInBounds_toArray, List.set_cons_zero, List.set_cons_succ]
  refine wpAnyH_take (i := 4) (v := ?_) rfl (by kernel_rfl) (by kernel_rfl) (by kernel_rfl) (fun _ _ _ h => h) (Or.inl ⟨by kernel_rfl, ?y4a⟩) hHeld ?r4a
  case y4a => (intro wq hSw; go_simp; try rfl)
  simp only [Act.put, List.setIfInBounds_toArray, List.set_cons_zero, List.set_cons_succ]
  refine wpAnyH_take (i := 5) (v := ?_) rfl (by kernel_rfl) (by kernel_rfl) (by kernel_rfl) (fun _ _ _ h => h) (Or.inl ⟨by kernel_rfl, ?y5a⟩) hHeld ?r5a
  case y5a => (intro wq hSw; obtain ⟨l9, hSw⟩ := hSw; have q := (E.out wq _ hSw).2.2.2.1; go_simp; try rfl)
  simp only [Act.put, List.setIfInBounds_toArray, List.set_cons_zero, List.set_cons_succ]
  refine wpAnyH_ready (rs := [6]) (by kernel_rfl) (by simp) ?_
  refine AllReadyH.cons rfl (fun K hK => ?_) AllReadyH.nil
  go_simp
  go_wp2_with (go_at_call 59; refine (TZ.out _ P1.out.drew).mono ?_; rintro e w2 ⟨rfl, p2⟩; have P2 := hid_of p2; clear p2)
  refine hK.out _ _ ⟨_, P2.out⟩ (fun _ => ?_)
  clear hK K
  refine wpAnyH_done (by kernel_rfl) ?_ _
  clear hHeld
  go_wp2_with fail
  refine wp_region_held_drew (S := (fun Y => ∃ l', Wp v X Y p B q ob nb c l')) (by kernel_rfl) ⟨_, P2.out.drew⟩ (fun hHeld => ?_)
  refine wpAnyH_take (i := 0) (v := ?_) rfl (by kernel_rfl) (by kernel_rfl) (by kernel_rfl) (fun _ _ _ h => h) (Or.inl ⟨by kernel_rfl, ?y0b⟩) hHeld ?r0b
  case y0b => (intro wq hSw; obtain ⟨l9, hSw⟩ := hSw; have q := (E.out wq _ hSw).1; go_simp; try rfl)
  simp only [Act.put, List.setIfInBounds_toArray, List.set_cons_zero, List.set_cons_succ]
  refine wpAnyH_take (i := 1) (v := ?_) rfl (by kernel_rfl) (by kernel_rfl) (by kernel_rfl) (fun _ _ _ h => h) (Or.inl ⟨by kernel_rfl, ?y1b⟩) hHeld ?r1b
  case y1b => (intro wq hSw; go_simp; try rfl)
  simp only [Act.put, List.setIfInBounds_toArray, List.set_cons_zero, List.set_cons_succ]
  refine wpAnyH_take (i := 2) (v := ?_) rfl (by kernel_rfl) (by kernel_rfl) (by kernel_rfl) (fun _ _ _ h => h) (Or.inl ⟨by kernel_rfl, ?y2b⟩) hHeld ?r2b
  case y2b => (intro wq hSw; obtain ⟨l9, hSw⟩ := hSw; have q := (E.out wq _ hSw).2.2.1; go_simp; try rfl)
  simp only [Act.put, List.setIfInBounds_toArray, List.set_cons_zero, List.set_cons_succ]
  refine wpAnyH_take (i := 3) (v := ?_) rfl (by kernel_rfl) (by kernel_rfl) (by kernel_rfl) (fun _ _ _ h => h) (Or.inl ⟨by kernel_rfl, ?y3b⟩) hHeld ?r3b
  case y3b => (intro wq hSw; go_simp; try rfl)
  simp only [Act.put, List.setIfInBounds_toArray, List.set_cons_zero, List.set_cons_succ]
  refine wpAnyH_take (i := 4) (v := ?_) rfl (by kernel_rfl) (by kernel_rfl) (by kernel_rfl) (fun _ _ _ h => h) (Or.inl ⟨by kernel_rfl, ?y4b⟩) hHeld ?r4b
  case y4b => (intro wq hSw; go_simp; try rfl)
  simp only [Act.put, List.setIfInBounds_toArray, List.set_cons_zero, List.set_cons_succ]
  refine wpAnyH_take (i := 5) (v := ?_) rfl (by kernel_rfl) (by kernel_rfl) (by kernel_rfl) (fun _ _ _ h => h) (Or.inl ⟨by kernel_rfl, ?y5b⟩) hHeld ?r5b
  case y5b => (intro wq hSw; obtain ⟨l9, hSw⟩ := hSw; have q := (E.out wq _ hSw).2.2.2.2; go_simp; try rfl)
  simp only [Act.put, List.setIfInBounds_toArray, List.set_cons_zero, List.set_cons_succ]
  refine wpAnyH_ready (rs := [6]) (by kernel_rfl) (by simp) ?_
  refine AllReadyH.cons rfl (fun K hK => ?_) AllReadyH.nil
  go_simp
  go_wp2_with (go_at_call 67; refine (FZ.out _ P2.out.drew).mono ?_; rintro e w3 ⟨rfl, p3⟩; have P3 := hid_of p3; clear p3)
  refine hK.out _ _ ⟨_, P3.out⟩ (fun _ => ?_)
  clear hK K
  refine wpAnyH_done (by kernel_rfl) ?_ _
  go_wp2_with fail
  go_end0
  exact ⟨rfl, P3.out.wr, P3.out.wk⟩
end Go.Proofs.Ytmfdomabegaidaa
