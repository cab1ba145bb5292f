/-
  Layer 9: elements of sets.
-/
import Derived.Test.YtllhcjmabhempaaDoorFst
import Derived.Deep.DeepCutAuto
namespace Go.Proofs.YtllhcjmabhempaaDoor
set_option linter.unusedVariables false
set_option linter.unusedSimpArgs false
open Go.ChangeShapes Go.WideShapes Go.ChangeAt Go.RowKit


attribute [local go_sem] fieldTk0 fieldTk3 hmf
attribute [local go_sem ↓] bslNd_seal
attribute [local go_sem] bslNd1_run bslNd2_run

set_option maxHeartbeats 4000000 in
set_option maxRecDepth 20000 in
theorem elem_step (f : Nat) (hE : Pc 16 .expr f) : Pc 88 .elem (f + 1) := by
  intro w b g cap L i o h hf
  have bl := h.bl
  have gl := h.gl
  have hil := h.il
  have H : Hid (RdAt w b g cap L i o) := h
  have hf0 : (L.length - i) * 40 + 22 ≤ f + 1 := hf
  have E1 : Hid (∀ X, RdAt X b g cap L i o → Calls Tryd.prog 16 #[.pointer (some ⟨b, 0, none⟩)] X (PostN X b g cap L i o (run f .expr o (L.drop i)))) := fun X hX => hE X b g cap L i o hX (by show (L.length - i) * 40 + 20 ≤ f; omega)
  have E2 : Hid (∀ i1, i < i1 → ∀ X, RdAt X b g cap L (i1 + 1) o → Calls Tryd.prog 16 #[.pointer (some ⟨b, 0, none⟩)] X (PostN X b g cap L (i1 + 1) o (run f .expr o (L.drop (i1 + 1))))) := fun i1 h1 X hX => hE X b g cap L (i1 + 1) o hX (by show (L.length - (i1 + 1)) * 40 + 20 ≤ f; omega)
  clear hE h hf hf0
  rw [run]
  cases hr : run f .expr o (L.drop i) with
  | bad p e =>
    rw [hr] at E1
    rw [Rs.bind_bad]
    clear hr E2
    go_enter Tryd.func88, Tryd.ntmps88
    go_wp2_with (go_at_call 16; refine (E1.out _ (H.out.alloc _)).mono ?_; rintro e w1 ⟨he, g1⟩; unfold gaveUp at he; subst he)
    exact ⟨rfl, rfl, gb_trans ((St.refl H.out).alloc _).gb g1⟩
  | ok x r =>
    rw [hr] at E1
    rw [Rs.bind_ok]
    clear hr
    by_cases hk : wd r = [46, 46]
    · rw [if_pos hk]
      have hkb : decide (wd r = [46, 46]) = true := by simpa using hk
      have HK : Hid (∀ i1, r = L.drop i1 → (hd (L.drop i1)).k ≠ 0) := fun i1 e1 => by rw [← e1]; exact wd_kind (by rw [hk]; decide)
      have k1 := fun i1 => rk (wd (L.drop i1))
      cases hr2 : run f .expr o r.tail with
      | bad p e =>
        rw [Rs.bind_bad]
        have E3 : Hid (∀ i1, i < i1 → r = L.drop i1 → ∀ X, RdAt X b g cap L (i1 + 1) o → Calls Tryd.prog 16 #[.pointer (some ⟨b, 0, none⟩)] X (PostN X b g cap L (i1 + 1) o (.bad p e))) := fun i1 h1 e1 X hX => by
          have := E2.out i1 h1 X hX
          rwa [← List.tail_drop, ← e1, hr2] at this
        clear hr2 E2 hk
        go_enter Tryd.func88, Tryd.ntmps88
        go_upto_region 5 with (first
          | (go_at_call 16; refine (E1.out _ (H.out.alloc _)).mono ?_; rintro e w1 ⟨c1, i1, rfl, ht1, hi1, s1, nd1⟩; have hs1 := s1.size; simp at hs1; have A1 : Hid (St w w1 b g cap L i1 o ∧ NdAt w1 (fun x => w.heap.size + 1 ≤ x) c1 x ∧ i < i1 ∧ r = L.drop i1) := ⟨((St.refl H.out).alloc _).next s1, by simpa using nd1, hi1, ht1⟩; have m2 : roomAt w1 w.heap.size 6 = true := (s1.room (by simp) (by omega) 6).trans (roomNd_new _ _ _ _ (by simp)); rw [ht1] at hkb; clear nd1 s1 ht1 hi1)
          | (go_at_call 39; refine (word_any _ b g cap L i1 o (A1.out.1.alloc _).rd).mono ?_; rintro e w2 ⟨rfl, hb2⟩; have hs2 := hb2.size; simp at hs2; have r3 : rowAt w2 w1.heap.size = some c1.cells := (rowAt_below hb2 _ (by simp)).trans (rowAt_at _ _ _ _ _ rfl); have m3 : roomAt w2 w.heap.size 6 = true := (roomAt_below hb2 _ _ (by simp; omega)).trans ((roomAt_old _ _ _ _ (by omega)).trans m2); have A2 : Hid (St w w2 b g cap L i1 o ∧ NdAt w2 (fun x => w.heap.size + 1 ≤ x) c1 x) := ⟨(A1.out.1.alloc _).below hb2, NdAt.step (g := g) (cap := cap) (i := i) (o := o) (L := L) (b := b) A1.out.2.1 (by omega) (gb_trans (gb_of_below (by go_grown) b) (gb_of_below hb2 b))⟩)
          | (go_at_call 52; refine (pass_any _ b g cap L i1 o A2.out.1.rd (HK.out i1 A1.out.2.2.2)).mono ?_; rintro e w3 ⟨rfl, s3⟩; have hs3 := s3.size; have r4 : rowAt w3 w1.heap.size = some c1.cells := (s3.row (by omega) (by omega)).trans r3; have m4 : roomAt w3 w.heap.size 6 = true := (s3.room (by omega) (by omega) 6).trans m3; have A3 : Hid (St w w3 b g cap L (i1 + 1) o ∧ NdAt w3 (fun x => w.heap.size + 1 ≤ x) c1 x) := ⟨A2.out.1.next s3, NdAt.stepP (b := b) A2.out.2 (fun x hx => by omega) s3.gb⟩))
        have R4 : rowAt w3.drew w1.heap.size = some c1.cells := r4
        have S4 := A3.out.1.drew
        refine wp_region_held_drew (S := (fun X => rowAt X w1.heap.size = some c1.cells)) (by kernel_rfl) R4 (fun hHeld => ?_)
        refine wpAnyH_take (i := 0) (v := ?_) rfl (by kernel_rfl) (by kernel_rfl) (by kernel_rfl) (fun _ _ _ h => h) (Or.inl ⟨by rfl, ?y0b⟩) hHeld ?r0b
        case y0b => (intro w2 hSw; (try dsimp only at hSw); go_simp; try rfl)
        simp only [Act.put, List.setIfInBounds_toArray, List.set_cons_zero, List.set_cons_succ]
        refine wpAnyH_take (i := 1) (v := ?_) rfl (by kernel_rfl) (by kernel_rfl) (by kernel_rfl) (fun _ _ _ h => h) (Or.inl ⟨by rfl, ?y1b⟩) hHeld ?r1b
        case y1b => (intro w2 hSw; (try dsimp only at hSw); go_simp; try rfl)
        simp only [Act.put, List.setIfInBounds_toArray, List.set_cons_zero, List.set_cons_succ]
        refine wpAnyH_take (i := 2) (v := ?_) rfl (by kernel_rfl) (by kernel_rfl) (by kernel_rfl) (fun _ _ _ h => h) (Or.inl ⟨by rfl, ?y2b⟩) hHeld ?r2b
        case y2b => (intro w2 hSw; (try dsimp only at hSw); go_simp; try rfl)
        simp only [Act.put, List.setIfInBounds_toArray, List.set_cons_zero, List.set_cons_succ]
        refine wpAnyH_ready (rs := [3]) (by kernel_rfl) (by simp) ?_
        refine .cons rfl (fun K hK => ?_) .nil
        go_simp
        go_wp2_with (go_at_call 16; refine (E3.out i1 A1.out.2.2.1 A1.out.2.2.2 _ S4.rd).mono ?_; rintro e w5 ⟨he, g5⟩; unfold gaveUp at he; subst he)
        exact ⟨rfl, rfl, gb_trans S4.gb g5⟩
      | ok y s =>
        rw [Rs.bind_ok]
        have E3 : Hid (∀ i1, i < i1 → r = L.drop i1 → ∀ X, RdAt X b g cap L (i1 + 1) o → Calls Tryd.prog 16 #[.pointer (some ⟨b, 0, none⟩)] X (PostN X b g cap L (i1 + 1) o (.ok y s))) := fun i1 h1 e1 X hX => by
          have := E2.out i1 h1 X hX
          rwa [← List.tail_drop, ← e1, hr2] at this
        clear hr2 E2 hk
        go_enter Tryd.func88, Tryd.ntmps88
        go_upto_region 5 with (first
          | (go_at_call 16; refine (E1.out _ (H.out.alloc _)).mono ?_; rintro e w1 ⟨c1, i1, rfl, ht1, hi1, s1, nd1⟩; have hs1 := s1.size; simp at hs1; have A1 : Hid (St w w1 b g cap L i1 o ∧ NdAt w1 (fun x => w.heap.size + 1 ≤ x) c1 x ∧ i < i1 ∧ r = L.drop i1) := ⟨((St.refl H.out).alloc _).next s1, by simpa using nd1, hi1, ht1⟩; have m2 : roomAt w1 w.heap.size 6 = true := (s1.room (by simp) (by omega) 6).trans (roomNd_new _ _ _ _ (by simp)); rw [ht1] at hkb; clear nd1 s1 ht1 hi1)
          | (go_at_call 39; refine (word_any _ b g cap L i1 o (A1.out.1.alloc _).rd).mono ?_; rintro e w2 ⟨rfl, hb2⟩; have hs2 := hb2.size; simp at hs2; have r3 : rowAt w2 w1.heap.size = some c1.cells := (rowAt_below hb2 _ (by simp)).trans (rowAt_at _ _ _ _ _ rfl); have m3 : roomAt w2 w.heap.size 6 = true := (roomAt_below hb2 _ _ (by simp; omega)).trans ((roomAt_old _ _ _ _ (by omega)).trans m2); have A2 : Hid (St w w2 b g cap L i1 o ∧ NdAt w2 (fun x => w.heap.size + 1 ≤ x) c1 x) := ⟨(A1.out.1.alloc _).below hb2, NdAt.step (g := g) (cap := cap) (i := i) (o := o) (L := L) (b := b) A1.out.2.1 (by omega) (gb_trans (gb_of_below (by go_grown) b) (gb_of_below hb2 b))⟩)
          | (go_at_call 52; refine (pass_any _ b g cap L i1 o A2.out.1.rd (HK.out i1 A1.out.2.2.2)).mono ?_; rintro e w3 ⟨rfl, s3⟩; have hs3 := s3.size; have r4 : rowAt w3 w1.heap.size = some c1.cells := (s3.row (by omega) (by omega)).trans r3; have m4 : roomAt w3 w.heap.size 6 = true := (s3.room (by omega) (by omega) 6).trans m3; have A3 : Hid (St w w3 b g cap L (i1 + 1) o ∧ NdAt w3 (fun x => w.heap.size + 1 ≤ x) c1 x) := ⟨A2.out.1.next s3, NdAt.stepP (b := b) A2.out.2 (fun x hx => by omega) s3.gb⟩))
        have R4 : rowAt w3.drew w1.heap.size = some c1.cells := r4
        have S4 := A3.out.1.drew
        refine wp_region_held_drew (S := (fun X => rowAt X w1.heap.size = some c1.cells)) (by kernel_rfl) R4 (fun hHeld => ?_)
        refine wpAnyH_take (i := 0) (v := ?_) rfl (by kernel_rfl) (by kernel_rfl) (by kernel_rfl) (fun _ _ _ h => h) (Or.inl ⟨by rfl, ?y0a⟩) hHeld ?r0a
        case y0a => (intro w2 hSw; (try dsimp only at hSw); go_simp; try rfl)
        simp only [Act.put, List.setIfInBounds_toArray, List.set_cons_zero, List.set_cons_succ]
        refine wpAnyH_take (i := 1) (v := ?_) rfl (by kernel_rfl) (by kernel_rfl) (by kernel_rfl) (fun _ _ _ h => h) (Or.inl ⟨by rfl, ?y1a⟩) hHeld ?r1a
        case y1a => (intro w2 hSw; (try dsimp only at hSw); go_simp; try rfl)
        simp only [Act.put, List.setIfInBounds_toArray, List.set_cons_zero, List.set_cons_succ]
        refine wpAnyH_take (i := 2) (v := ?_) rfl (by kernel_rfl) (by kernel_rfl) (by kernel_rfl) (fun _ _ _ h => h) (Or.inl ⟨by rfl, ?y2a⟩) hHeld ?r2a
        case y2a => (intro w2 hSw; (try dsimp only at hSw); go_simp; try rfl)
        simp only [Act.put, List.setIfInBounds_toArray, List.set_cons_zero, List.set_cons_succ]
        refine wpAnyH_ready (rs := [3]) (by kernel_rfl) (by simp) ?_
        refine .cons rfl (fun K hK => ?_) .nil
        go_simp
        go_wp2_with (go_at_call 16; refine (E3.out i1 A1.out.2.2.1 A1.out.2.2.2 _ S4.rd).mono ?_; rintro e w5 ⟨c5, i5, rfl, ht5, hi5, s5, nd5⟩)
        have hs5 := s5.size
        simp at hs5
        have z1 : w1.heap.size ≠ b := by omega
        have hh5 := hold1_gb hHeld s5.gb z1
        refine hK.out _ _ hh5 (fun _ => ?_)
        clear hK K
        refine wpAnyH_ready (rs := [4]) (by kernel_rfl) (by simp) ?_
        refine .cons rfl (fun K hK => ?_) .nil
        go_simp
        have g6 : w5.grownBy (w5.alloc (.cells (c1.cells ++ c5.cells) 31)) (some b) := gb_of_below (by go_grown) b
        refine hK.out _ _ (hold1_gb hh5 g6 z1) (fun _ => ?_)
        clear hK K
        refine wpAnyH_ready (rs := [5]) (by kernel_rfl) (by simp) ?_
        refine .cons rfl (fun K hK => ?_) .nil
        go_simp
        go_wp2_with (go_at_call 59; refine (node_any _ _ _ _ _ _).mono ?_; rintro e w6 ⟨rfl, hb6⟩)
        have hs6 := hb6.size
        simp at hs6
        have g7 := gb_trans s5.gb (gb_trans g6 (gb_of_below hb6 b))
        have hh6 := hold1_gb hHeld g7 z1
        refine hK.out _ _ hh6 (fun _ => ?_)
        clear hK K
        have m6 : roomAt w6 w.heap.size 6 = true := (room_gb g7 (by simp; omega) (by omega) 6).trans m4
        have S6 : St w w6 b g cap L i5 o := ((S4.next s5).alloc _).below hb6
        have mb : w6.heap[w5.heap.size]? = some (.cells (c1.cells ++ c5.cells) 31 (0, 0)) := (hb6.block _ (by simp)).trans (heap_new' _ _ rfl)
        have n1 : NdAt w6 (fun x => w.heap.size + 1 ≤ x) c1 x := NdAt.stepP (w := w3.drew) (b := b) (NdAt.keep (w := w3) (w' := w3.drew) (P := fun x => w.heap.size + 1 ≤ x) (fun x hx _ => hx) (Nat.le_refl _) (fun _ _ _ => rfl) A3.out.2) (fun x hx => by omega) g7
        have n5 : NdAt w6 (fun x => w.heap.size + 1 ≤ x) c5 y := nd5.keep (fun x hx _ => by simp at hx; omega) (gb_trans g6 (gb_of_below hb6 b)).size (fun x hx hl => (gb_trans g6 (gb_of_below hb6 b)).block x hl (fun e => by injection e with e; simp at hx; omega))
        have nf : NdAt w6 (fun x => w.heap.size + 1 ≤ x) ⟨30, ⟨#[]⟩, 0, false, some ⟨w5.heap.size, 0, none⟩, 2, 2, ((hd r).p : Int)⟩ (.mk 30 [] 0 false [x, y] (hd r).p) := by
          have hl : w5.heap.size < w6.heap.size := (Array.getElem?_eq_some_iff.1 mb).1
          refine NdAt.mk 30 [] 0 false [x, y] (hd r).p _ 2 (KidsAt.cons w5.heap.size 0 c1 x [y] (by omega) hl (fun i hi => ?_) n1 (KidsAt.cons w5.heap.size 1 c5 y [] (by omega) hl (fun i hi => ?_) n5 (KidsAt.nil _ _)))
          · rw [← two0 c1 c5 i hi]; simp [World.cell?, mb]
          · rw [← two1 c1 c5 i hi]; simp [World.cell?, mb]
        have FP := fin_post (i := i) S6 bl gl (by have := A1.out.2.2.1; omega) ht5 nf
        have HF : Hid (PostN w b g cap L i o _ _ _) := FP
        have e9 := A1.out.2.2.2
        refine wpAnyH_ready (rs := [6]) (by kernel_rfl) (by simp) ?_
        refine .cons rfl (fun K hK => ?_) .nil
        have rw6 := (row_far w6 w.heap.size w1.heap.size (⟨30, ⟨#[]⟩, 0, false, some ⟨w5.heap.size, 0, none⟩, 2, 2, ((hd r).p : Int)⟩ : Nc).cells (by omega)).trans hh6
        rw [e9] at HF rw6
        clear FP nf n1 n5 mb S6 g7 g6 hh5 nd5 s5 ht5 hi5
        go_simp
        refine hK.out _ _ rw6 (fun _ => ?_)
        clear hK K
        refine wpAnyH_done (by kernel_rfl) ?_ _
        go_wp2_with fail
        rw [e9]
        exact ret_cell1 rfl rfl (loadNd_row (rowNd_put _ _ _ m6)) rfl HF.out
    · rw [if_neg hk]
      clear E2
      have hkb : decide (wd r = [46, 46]) = false := by simpa using hk
      have k1 := fun i1 => rk (wd (L.drop i1))
      clear hk
      go_enter Tryd.func88, Tryd.ntmps88
      go_wp2_with (first
        | (go_at_call 16; refine (E1.out _ (H.out.alloc _)).mono ?_; rintro e w1 ⟨c1, i1, rfl, ht1, hi1, s1, nd1⟩; have hs1 := s1.size; simp at hs1; have A1 : Hid (St w w1 b g cap L i1 o ∧ NdAt w1 (fun x => w.heap.size + 1 ≤ x) c1 x ∧ i < i1 ∧ r = L.drop i1) := ⟨((St.refl H.out).alloc _).next s1, by simpa using nd1, hi1, ht1⟩; have m2 : roomAt w1 w.heap.size 6 = true := (s1.room (by simp) (by omega) 6).trans (roomNd_new _ _ _ _ (by simp)); rw [ht1] at hkb; clear nd1 s1 ht1 hi1)
        | (go_at_call 39; refine (word_any _ b g cap L i1 o (A1.out.1.alloc _).rd).mono ?_; rintro e w2 ⟨rfl, hb2⟩; have hs2 := hb2.size; simp at hs2; have r3 : rowAt w2 w1.heap.size = some c1.cells := (rowAt_below hb2 _ (by simp)).trans (rowAt_at _ _ _ _ _ rfl); have m3 : roomAt w2 w.heap.size 6 = true := (roomAt_below hb2 _ _ (by simp; omega)).trans ((roomAt_old _ _ _ _ (by omega)).trans m2); have A2 : Hid (St w w2 b g cap L i1 o ∧ NdAt w2 (fun x => w.heap.size + 1 ≤ x) c1 x) := ⟨(A1.out.1.alloc _).below hb2, NdAt.step (g := g) (cap := cap) (i := i) (o := o) (L := L) (b := b) A1.out.2.1 (by omega) (gb_trans (gb_of_below (by go_grown) b) (gb_of_below hb2 b))⟩))
      exact ret_cell1 rfl rfl (loadNd_row (rowNd_put _ _ _ m3)) rfl (fin_post A2.out.1 bl gl A1.out.2.2.1 A1.out.2.2.2 A2.out.2)
end Go.Proofs.YtllhcjmabhempaaDoor
