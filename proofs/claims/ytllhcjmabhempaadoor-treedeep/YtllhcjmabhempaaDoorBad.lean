/-
  Layer 9: a sign between two operands, of which the second gives up.
-/
import Derived.Test.YtllhcjmabhempaaDoorNds
namespace Go.Proofs.YtllhcjmabhempaaDoor
set_option linter.unusedVariables false
set_option linter.unusedSimpArgs false
open Go.ChangeShapes Go.WideShapes Go.ChangeAt Go.RowKit


attribute [local go_sem] fieldTk0 fieldTk3
attribute [local go_sem ↓] bslNd_seal
attribute [local go_sem] bslNd1_run bslNd2_run

set_option maxHeartbeats 4000000 in
set_option maxRecDepth 20000 in
theorem binary_bad_simple (w : World) (b g cap : Nat) (L : List Tok) (i o : Nat) (h : RdAt w b g cap L i o) (hk : (hd (L.drop i)).k ≠ 0) (c : Nc) (p : Nat) (er : Int)
    (hF : ∀ X, RdAt X b g cap L (i + 1) o → Calls Tryd.prog 43 #[.pointer (some ⟨b, 0, none⟩)] X (PostN X b g cap L (i + 1) o (.bad p er))) :
    Calls Tryd.prog 45 #[.pointer (some ⟨b, 0, none⟩), .agg c.cells, .func (.func 43) #[.pointer (some ⟨b, 0, none⟩)] #[]] w fun e w' => e = gaveUp p er ∧ w.grownBy w' (some b) := by
  have PA : Hid (∀ X, RdAt X b g cap L i o → Calls Tryd.prog 52 #[.pointer (some ⟨b, 0, none⟩)] X _) := fun X hX => pass_any X b g cap L i o hX hk
  have H : Hid (RdAt w b g cap L i o) := h
  have HF : Hid (∀ X, RdAt X b g cap L (i + 1) o → Calls Tryd.prog 43 #[.pointer (some ⟨b, 0, none⟩)] X (PostN X b g cap L (i + 1) o (.bad p er))) := hF
  have bl := h.bl
  have gl := h.gl
  clear h hk hF
  generalize hd (L.drop i) = tk at PA
  go_enter Tryd.func45, Tryd.ntmps45
  go_upto_region 2 with (go_at_call 52; refine (PA.out _ ((H.out.alloc _).alloc _)).mono ?_; rintro e w2 ⟨rfl, s2⟩)
  have S2 : St w w2 b g cap L (i + 1) o := (((St.refl H.out).alloc _).alloc _).next s2
  have hs2 := s2.size
  simp at hs2
  have r4 : rowAt w2 w.heap.size = some c.cells := (s2.row (by simp; omega) (by omega)).trans ((rowAt_old _ _ _ (by simp)).trans (rowAt_at _ _ _ _ _ rfl))
  have S3 := (S2.alloc (.cells tk.tk.cells 41)).drew
  have hq7 : w2.heap.size ≠ b := by omega
  have hq4 : w.heap.size ≠ b := by omega
  refine wp_region_held_drew (S := (fun X => rowAt X w2.heap.size = some tk.tk.cells ∧ rowAt X w.heap.size = some c.cells)) (by kernel_rfl) ⟨(rowAt_drew _ _).trans (rowAt_at _ _ _ _ _ rfl), (rowAt_drew _ _).trans ((rowAt_old _ _ _ (by omega)).trans r4)⟩ (fun hHeld => ?_)
  refine wpAnyH_take (i := 0) (v := ?_) rfl (by kernel_rfl) (by kernel_rfl) (by kernel_rfl) (fun _ _ _ h => h) (Or.inl ⟨by rfl, ?y0⟩) hHeld ?r0
  case y0 => (intro w2 hSw; (try dsimp only at hSw); go_simp; try rfl)
  simp only [Act.put, List.setIfInBounds_toArray, List.set_cons_zero, List.set_cons_succ]
  refine wpAnyH_take (i := 1) (v := ?_) rfl (by kernel_rfl) (by kernel_rfl) (by kernel_rfl) (fun _ _ _ h => h) (Or.inl ⟨by rfl, ?y1⟩) hHeld ?r1
  case y1 => (intro w2 hSw; (try dsimp only at hSw); have c3 := rowAt_cell hSw.1 3; go_simp; try rfl)
  simp only [Act.put, List.setIfInBounds_toArray, List.set_cons_zero, List.set_cons_succ]
  refine wpAnyH_take (i := 2) (v := ?_) rfl (by kernel_rfl) (by kernel_rfl) (by kernel_rfl) (fun _ _ _ h => h) (Or.inl ⟨by rfl, ?y2⟩) hHeld ?r2
  case y2 => (intro w2 hSw; (try dsimp only at hSw); go_simp; try rfl)
  simp only [Act.put, List.setIfInBounds_toArray, List.set_cons_zero, List.set_cons_succ]
  refine wpAnyH_take (i := 3) (v := ?_) rfl (by kernel_rfl) (by kernel_rfl) (by kernel_rfl) (fun _ _ _ h => h) (Or.inl ⟨by rfl, ?y3⟩) hHeld ?r3
  case y3 => (intro w2 hSw; (try dsimp only at hSw); go_simp; try rfl)
  simp only [Act.put, List.setIfInBounds_toArray, List.set_cons_zero, List.set_cons_succ]
  refine wpAnyH_ready (rs := [4, 7]) (by kernel_rfl) (by simp) ?_
  refine .cons rfl (fun K hK => ?_) (.cons rfl (fun K hK => ?_) .nil)
  · go_simp
    go_wp2_with (go_at_call 43; refine (HF.out _ S3.rd).mono ?_; rintro e w5 ⟨he, g5⟩; unfold gaveUp at he; subst he)
    exact ⟨rfl, rfl, gb_trans S3.gb g5⟩
  · go_simp
    have g1 := gb_of_below (by go_grown : Below ((w2.alloc (.cells tk.tk.cells 41)).drew).heap.size ((w2.alloc (.cells tk.tk.cells 41)).drew) (((w2.alloc (.cells tk.tk.cells 41)).drew).alloc (.cells (⟨0, ⟨#[]⟩, 0, false, none, 0, 0, 0⟩ : Nc).cells 31))) b
    have hh := hold_gb hHeld g1 hq7 hq4
    refine hK.out _ _ hh (fun _ => ?_)
    clear hK K
    have S4 := S3.alloc (.cells (⟨0, ⟨#[]⟩, 0, false, none, 0, 0, 0⟩ : Nc).cells 31)
    refine wpAnyH_ready (rs := [4]) (by kernel_rfl) (by simp) ?_
    refine .cons rfl (fun K hK => ?_) .nil
    go_simp
    go_wp2_with (go_at_call 43; refine (HF.out _ S4.rd).mono ?_; rintro e w5 ⟨he, g5⟩; unfold gaveUp at he; subst he)
    exact ⟨rfl, rfl, gb_trans S4.gb g5⟩
set_option maxHeartbeats 4000000 in
set_option maxRecDepth 20000 in
theorem binary_bad_term (w : World) (b g cap : Nat) (L : List Tok) (i o : Nat) (h : RdAt w b g cap L i o) (hk : (hd (L.drop i)).k ≠ 0) (c : Nc) (p : Nat) (er : Int)
    (hF : ∀ X, RdAt X b g cap L (i + 1) o → Calls Tryd.prog 62 #[.pointer (some ⟨b, 0, none⟩)] X (PostN X b g cap L (i + 1) o (.bad p er))) :
    Calls Tryd.prog 45 #[.pointer (some ⟨b, 0, none⟩), .agg c.cells, .func (.func 62) #[.pointer (some ⟨b, 0, none⟩)] #[]] w fun e w' => e = gaveUp p er ∧ w.grownBy w' (some b) := by
  have PA : Hid (∀ X, RdAt X b g cap L i o → Calls Tryd.prog 52 #[.pointer (some ⟨b, 0, none⟩)] X _) := fun X hX => pass_any X b g cap L i o hX hk
  have H : Hid (RdAt w b g cap L i o) := h
  have HF : Hid (∀ X, RdAt X b g cap L (i + 1) o → Calls Tryd.prog 62 #[.pointer (some ⟨b, 0, none⟩)] X (PostN X b g cap L (i + 1) o (.bad p er))) := hF
  have bl := h.bl
  have gl := h.gl
  clear h hk hF
  generalize hd (L.drop i) = tk at PA
  go_enter Tryd.func45, Tryd.ntmps45
  go_upto_region 2 with (go_at_call 52; refine (PA.out _ ((H.out.alloc _).alloc _)).mono ?_; rintro e w2 ⟨rfl, s2⟩)
  have S2 : St w w2 b g cap L (i + 1) o := (((St.refl H.out).alloc _).alloc _).next s2
  have hs2 := s2.size
  simp at hs2
  have r4 : rowAt w2 w.heap.size = some c.cells := (s2.row (by simp; omega) (by omega)).trans ((rowAt_old _ _ _ (by simp)).trans (rowAt_at _ _ _ _ _ rfl))
  have S3 := (S2.alloc (.cells tk.tk.cells 41)).drew
  have hq7 : w2.heap.size ≠ b := by omega
  have hq4 : w.heap.size ≠ b := by omega
  refine wp_region_held_drew (S := (fun X => rowAt X w2.heap.size = some tk.tk.cells ∧ rowAt X w.heap.size = some c.cells)) (by kernel_rfl) ⟨(rowAt_drew _ _).trans (rowAt_at _ _ _ _ _ rfl), (rowAt_drew _ _).trans ((rowAt_old _ _ _ (by omega)).trans r4)⟩ (fun hHeld => ?_)
  refine wpAnyH_take (i := 0) (v := ?_) rfl (by kernel_rfl) (by kernel_rfl) (by kernel_rfl) (fun _ _ _ h => h) (Or.inl ⟨by rfl, ?y0⟩) hHeld ?r0
  case y0 => (intro w2 hSw; (try dsimp only at hSw); go_simp; try rfl)
  simp only [Act.put, List.setIfInBounds_toArray, List.set_cons_zero, List.set_cons_succ]
  refine wpAnyH_take (i := 1) (v := ?_) rfl (by kernel_rfl) (by kernel_rfl) (by kernel_rfl) (fun _ _ _ h => h) (Or.inl ⟨by rfl, ?y1⟩) hHeld ?r1
  case y1 => (intro w2 hSw; (try dsimp only at hSw); have c3 := rowAt_cell hSw.1 3; go_simp; try rfl)
  simp only [Act.put, List.setIfInBounds_toArray, List.set_cons_zero, List.set_cons_succ]
  refine wpAnyH_take (i := 2) (v := ?_) rfl (by kernel_rfl) (by kernel_rfl) (by kernel_rfl) (fun _ _ _ h => h) (Or.inl ⟨by rfl, ?y2⟩) hHeld ?r2
  case y2 => (intro w2 hSw; (try dsimp only at hSw); go_simp; try rfl)
  simp only [Act.put, List.setIfInBounds_toArray, List.set_cons_zero, List.set_cons_succ]
  refine wpAnyH_take (i := 3) (v := ?_) rfl (by kernel_rfl) (by kernel_rfl) (by kernel_rfl) (fun _ _ _ h => h) (Or.inl ⟨by rfl, ?y3⟩) hHeld ?r3
  case y3 => (intro w2 hSw; (try dsimp only at hSw); go_simp; try rfl)
  simp only [Act.put, List.setIfInBounds_toArray, List.set_cons_zero, List.set_cons_succ]
  refine wpAnyH_ready (rs := [4, 7]) (by kernel_rfl) (by simp) ?_
  refine .cons rfl (fun K hK => ?_) (.cons rfl (fun K hK => ?_) .nil)
  · go_simp
    go_wp2_with (go_at_call 62; refine (HF.out _ S3.rd).mono ?_; rintro e w5 ⟨he, g5⟩; unfold gaveUp at he; subst he)
    exact ⟨rfl, rfl, gb_trans S3.gb g5⟩
  · go_simp
    have g1 := gb_of_below (by go_grown : Below ((w2.alloc (.cells tk.tk.cells 41)).drew).heap.size ((w2.alloc (.cells tk.tk.cells 41)).drew) (((w2.alloc (.cells tk.tk.cells 41)).drew).alloc (.cells (⟨0, ⟨#[]⟩, 0, false, none, 0, 0, 0⟩ : Nc).cells 31))) b
    have hh := hold_gb hHeld g1 hq7 hq4
    refine hK.out _ _ hh (fun _ => ?_)
    clear hK K
    have S4 := S3.alloc (.cells (⟨0, ⟨#[]⟩, 0, false, none, 0, 0, 0⟩ : Nc).cells 31)
    refine wpAnyH_ready (rs := [4]) (by kernel_rfl) (by simp) ?_
    refine .cons rfl (fun K hK => ?_) .nil
    go_simp
    go_wp2_with (go_at_call 62; refine (HF.out _ S4.rd).mono ?_; rintro e w5 ⟨he, g5⟩; unfold gaveUp at he; subst he)
    exact ⟨rfl, rfl, gb_trans S4.gb g5⟩
set_option maxHeartbeats 4000000 in
set_option maxRecDepth 20000 in
theorem binary_bad_factor (w : World) (b g cap : Nat) (L : List Tok) (i o : Nat) (h : RdAt w b g cap L i o) (hk : (hd (L.drop i)).k ≠ 0) (c : Nc) (p : Nat) (er : Int)
    (hF : ∀ X, RdAt X b g cap L (i + 1) o → Calls Tryd.prog 74 #[.pointer (some ⟨b, 0, none⟩)] X (PostN X b g cap L (i + 1) o (.bad p er))) :
    Calls Tryd.prog 45 #[.pointer (some ⟨b, 0, none⟩), .agg c.cells, .func (.func 74) #[.pointer (some ⟨b, 0, none⟩)] #[]] w fun e w' => e = gaveUp p er ∧ w.grownBy w' (some b) := by
  have PA : Hid (∀ X, RdAt X b g cap L i o → Calls Tryd.prog 52 #[.pointer (some ⟨b, 0, none⟩)] X _) := fun X hX => pass_any X b g cap L i o hX hk
  have H : Hid (RdAt w b g cap L i o) := h
  have HF : Hid (∀ X, RdAt X b g cap L (i + 1) o → Calls Tryd.prog 74 #[.pointer (some ⟨b, 0, none⟩)] X (PostN X b g cap L (i + 1) o (.bad p er))) := hF
  have bl := h.bl
  have gl := h.gl
  clear h hk hF
  generalize hd (L.drop i) = tk at PA
  go_enter Tryd.func45, Tryd.ntmps45
  go_upto_region 2 with (go_at_call 52; refine (PA.out _ ((H.out.alloc _).alloc _)).mono ?_; rintro e w2 ⟨rfl, s2⟩)
  have S2 : St w w2 b g cap L (i + 1) o := (((St.refl H.out).alloc _).alloc _).next s2
  have hs2 := s2.size
  simp at hs2
  have r4 : rowAt w2 w.heap.size = some c.cells := (s2.row (by simp; omega) (by omega)).trans ((rowAt_old _ _ _ (by simp)).trans (rowAt_at _ _ _ _ _ rfl))
  have S3 := (S2.alloc (.cells tk.tk.cells 41)).drew
  have hq7 : w2.heap.size ≠ b := by omega
  have hq4 : w.heap.size ≠ b := by omega
  refine wp_region_held_drew (S := (fun X => rowAt X w2.heap.size = some tk.tk.cells ∧ rowAt X w.heap.size = some c.cells)) (by kernel_rfl) ⟨(rowAt_drew _ _).trans (rowAt_at _ _ _ _ _ rfl), (rowAt_drew _ _).trans ((rowAt_old _ _ _ (by omega)).trans r4)⟩ (fun hHeld => ?_)
  refine wpAnyH_take (i := 0) (v := ?_) rfl (by kernel_rfl) (by kernel_rfl) (by kernel_rfl) (fun _ _ _ h => h) (Or.inl ⟨by rfl, ?y0⟩) hHeld ?r0
  case y0 => (intro w2 hSw; (try dsimp only at hSw); go_simp; try rfl)
  simp only [Act.put, List.setIfInBounds_toArray, List.set_cons_zero, List.set_cons_succ]
  refine wpAnyH_take (i := 1) (v := ?_) rfl (by kernel_rfl) (by kernel_rfl) (by kernel_rfl) (fun _ _ _ h => h) (Or.inl ⟨by rfl, ?y1⟩) hHeld ?r1
  case y1 => (intro w2 hSw; (try dsimp only at hSw); have c3 := rowAt_cell hSw.1 3; go_simp; try rfl)
  simp only [Act.put, List.setIfInBounds_toArray, List.set_cons_zero, List.set_cons_succ]
  refine wpAnyH_take (i := 2) (v := ?_) rfl (by kernel_rfl) (by kernel_rfl) (by kernel_rfl) (fun _ _ _ h => h) (Or.inl ⟨by rfl, ?y2⟩) hHeld ?r2
  case y2 => (intro w2 hSw; (try dsimp only at hSw); go_simp; try rfl)
  simp only [Act.put, List.setIfInBounds_toArray, List.set_cons_zero, List.set_cons_succ]
  refine wpAnyH_take (i := 3) (v := ?_) rfl (by kernel_rfl) (by kernel_rfl) (by kernel_rfl) (fun _ _ _ h => h) (Or.inl ⟨by rfl, ?y3⟩) hHeld ?r3
  case y3 => (intro w2 hSw; (try dsimp only at hSw); go_simp; try rfl)
  simp only [Act.put, List.setIfInBounds_toArray, List.set_cons_zero, List.set_cons_succ]
  refine wpAnyH_ready (rs := [4, 7]) (by kernel_rfl) (by simp) ?_
  refine .cons rfl (fun K hK => ?_) (.cons rfl (fun K hK => ?_) .nil)
  · go_simp
    go_wp2_with (go_at_call 74; refine (HF.out _ S3.rd).mono ?_; rintro e w5 ⟨he, g5⟩; unfold gaveUp at he; subst he)
    exact ⟨rfl, rfl, gb_trans S3.gb g5⟩
  · go_simp
    have g1 := gb_of_below (by go_grown : Below ((w2.alloc (.cells tk.tk.cells 41)).drew).heap.size ((w2.alloc (.cells tk.tk.cells 41)).drew) (((w2.alloc (.cells tk.tk.cells 41)).drew).alloc (.cells (⟨0, ⟨#[]⟩, 0, false, none, 0, 0, 0⟩ : Nc).cells 31))) b
    have hh := hold_gb hHeld g1 hq7 hq4
    refine hK.out _ _ hh (fun _ => ?_)
    clear hK K
    have S4 := S3.alloc (.cells (⟨0, ⟨#[]⟩, 0, false, none, 0, 0, 0⟩ : Nc).cells 31)
    refine wpAnyH_ready (rs := [4]) (by kernel_rfl) (by simp) ?_
    refine .cons rfl (fun K hK => ?_) .nil
    go_simp
    go_wp2_with (go_at_call 74; refine (HF.out _ S4.rd).mono ?_; rintro e w5 ⟨he, g5⟩; unfold gaveUp at he; subst he)
    exact ⟨rfl, rfl, gb_trans S4.gb g5⟩
end Go.Proofs.YtllhcjmabhempaaDoor
