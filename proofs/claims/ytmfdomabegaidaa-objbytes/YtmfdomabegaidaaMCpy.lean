/-
  Layer 7: the law's copied: an object of the same in rows of its own.
-/
import Derived.Test.YtmfdomabegaidaaMCpd
namespace Go.Proofs.Ytmfdomabegaidaa
set_option linter.unusedVariables false
set_option linter.unusedSimpArgs false
open Go.ChangeShapes Go.WideShapes Go.ChangeAt Go.RowKit
attribute [local go_sem] Oc.at0 Oc.at1 Oc.at2 Oc.at3 Oc.at4 Oc.at5 Oc.at6 Oc.at7 Oc.at8 Oc.at9 Oc.at10 Oc.at11 Oc.at12

theorem CI.start (w : World) (c : Oc) (o : Ob) (h : ObR w c o) : ∃ Z, (storeO ⟨w.heap.size + 1 + 1, 0, none⟩ (.agg c.cells)).run Try.prog (((w.alloc (.cells c.cells 31)).alloc zeroO).alloc zeroO) = .ok () Z ∧ Hid (CI w Z c c o) := by
  obtain ⟨V, hV⟩ : ∃ V, V = (w.alloc (.cells c.cells 31)).alloc zeroO := ⟨_, rfl⟩
  have hs : V.heap.size = w.heap.size + 1 + 1 := by rw [hV]; simp
  obtain ⟨Z, z1, z2, z3⟩ := storeO_run (zero_at V) c
  rw [hs] at z1 z2 z3
  have t : Tq V Z (fun k => k = w.heap.size + 1 + 1) := (Tq.below (P := fun k => k = w.heap.size + 1 + 1) ((Below.refl V.heap.size V).alloc (Nat.le_refl _) _)).trans z3
  have hb : Below w.heap.size w V := by rw [hV]; go_grown
  have o1 : OAt V w.heap.size c := by
    rw [hV]
    exact (Below.heap_alloc _ _ _ (by simp)).trans (blk_new _ _)
  have o2 : OAt V (w.heap.size + 1) Oc.zero := by
    have := blk_new (w.alloc (.cells c.cells 31)) zeroO
    rw [show (w.alloc (.cells c.cells 31)).heap.size = w.heap.size + 1 by simp] at this
    rw [hV]; exact this
  have bZ : Below w.heap.size w Z := Below.of_tq hb t fun k hk => by omega
  rw [← hV]
  refine ⟨Z, z1, ⟨fun Y t2 => h.below (Below.of_tq bZ t2 fun k hk => by show ¬ (k = _ ∨ k = _); omega), o1.tq t (by omega), o2.tq t (by omega), z2, bZ⟩⟩
theorem elk1 {w : World} {α : Type} {enc : α → Array Value} {k : Nat} {s : Sl} {l : List α} (h : RdV w k s l.length (flat enc l)) (he : ∀ x, (enc x).size = k) (d : α) (i : Nat) (hi : i < l.length) : ∃ b off, s.a = some ⟨b, off, none⟩ ∧ ∀ X, Below w.heap.size w X → ∀ m, m < k → X.cell? ⟨b, off + (i * k + m), none⟩ = (enc (l.getD i d))[m]? := by
  rcases h.many he (fun j => l.getD j d) (fun j hj => getD_at l d j hj) with h0 | ⟨b, off, h1, _, _⟩
  · omega
  refine ⟨b, off, h1, fun X hX m hm => ?_⟩
  rcases (h.below hX).many he (fun j => l.getD j d) (fun j hj => getD_at l d j hj) with h0 | ⟨b2, off2, h2, _, h3⟩
  · omega
  rw [h1] at h2
  injection h2 with h2; injection h2 with h2 h4 _
  subst h2; subst h4
  exact h3 i hi m hm
attribute [local go_sem ↓] loadO_seal storeO_seal appN_seal mkN_seal loadD_seal storeD_seal
set_option maxHeartbeats 40000000 in
set_option maxRecDepth 20000 in
theorem copied_any (w : World) (c : Oc) (o : Ob) (h : ObM w c o) : Calls Try.prog 7 #[.agg c.cells] w fun e w' => ∃ c2, e = .returned (.agg (Oc.cells c2)) ∧ ObR w' c2 o ∧ Below w.heap.size w w' := by
  obtain ⟨Z0, st0, H0⟩ := CI.start w c o h.rd
  have l0 : (loadO ⟨w.heap.size, 0, none⟩).run Try.prog ((w.alloc (.cells c.cells 31)).alloc zeroO) = .ok (.agg c.cells) ((w.alloc (.cells c.cells 31)).alloc zeroO) := loadO_run ((Below.heap_alloc _ _ _ (by simp)).trans (blk_new _ _))
  simp only [zeroO] at st0 l0
  have HR := hid_of h
  clear h
  go_enter Try.func7, Try.ntmps7
  go_wp2
  have m0 : c.im.n ≤ 140737488351232 := Nat.le_trans (Nat.le_mul_of_pos_right _ (by omega)) HR.out.im.1
  have wr0 : IntKind.i64.wrap ((c.im.n : Int) + 1) = (c.im.n : Int) + 1 := by rw [IntWalk.i64_left, IntWalk.wrap64_in] <;> omega
  obtain ⟨Y1a, Y2a, sa, raa, rba, cza, fza, HNa⟩ := H0.out.im HR.out.rd HR.out.im
  have q0a := blk_cell H0.out.b1 2
  have lta := H0.out.b1.lt
  have hSa : (fun X => X.cell? ⟨w.heap.size, 2, none⟩ = some (.slice c.im.a c.im.n c.im.c)) (Z0).drew := blk_cell H0.out.b1 2
  have h1a : (fun X => X.cell? ⟨w.heap.size, 2, none⟩ = some (.slice c.im.a c.im.n c.im.c)) Y1a := (HNa.out.1.cell (p := ⟨w.heap.size, 2, none⟩) lta).trans (blk_cell H0.out.b1 2)
  have h2a : (fun X => X.cell? ⟨w.heap.size, 2, none⟩ = some (.slice c.im.a c.im.n c.im.c)) Y2a := (HNa.out.2.1.cell (p := ⟨w.heap.size, 2, none⟩) lta).trans (blk_cell H0.out.b1 2)
  have H1 := hid_of HNa.out.2.2
  have h3a : (fun X => X.cell? ⟨w.heap.size, 2, none⟩ = some (.slice c.im.a c.im.n c.im.c)) (Y2a.setCell ⟨w.heap.size + 1 + 1, 2, none⟩ (.slice sa.a sa.n sa.c)) := blk_cell H1.out.b1 2
  clear H0 HNa q0a
  refine wp_region_held_drew (S := (fun X => X.cell? ⟨w.heap.size, 2, none⟩ = some (.slice c.im.a c.im.n c.im.c))) (by kernel_rfl) hSa (fun hHeld => ?_)
  refine wpAnyH_take (i := 0) (v := ?_) rfl (by kernel_rfl) (by kernel_rfl) (by kernel_rfl) (fun _ _ _ h => h) (Or.inl ⟨by kernel_rfl, ?y0a⟩) hHeld ?r0a
  case y0a => (intro wq hSw; go_simp; try rfl)
  simp only [Act.put, List.setIfInBounds_toArray, List.set_cons_zero, List.set_cons_succ]
  refine wpAnyH_take (i := 1) (v := ?_) rfl (by kernel_rfl) (by kernel_rfl) (by kernel_rfl) (fun _ _ _ h => h) (Or.inl ⟨by kernel_rfl, ?y1a⟩) hHeld ?r1a
  case y1a => (intro wq hSw; have q1 := hSw; go_simp; try rfl)
  simp only [Act.put, List.setIfInBounds_toArray, List.set_cons_zero, List.set_cons_succ]
  refine wpAnyH_take (i := 2) (v := ?_) rfl (by kernel_rfl) (by kernel_rfl) (by kernel_rfl) (fun _ _ _ h => h) (Or.inl ⟨by kernel_rfl, ?y2a⟩) hHeld ?r2a
  case y2a => (intro wq hSw; go_simp; try rfl)
  simp only [Act.put, List.setIfInBounds_toArray, List.set_cons_zero, List.set_cons_succ]
  refine wpAnyH_take (i := 3) (v := ?_) rfl (by kernel_rfl) (by kernel_rfl) (by kernel_rfl) (fun _ _ _ h => h) (Or.inl ⟨by kernel_rfl, ?y3a⟩) hHeld ?r3a
  case y3a => (intro wq hSw; go_simp; try rfl)
  simp only [Act.put, List.setIfInBounds_toArray, List.set_cons_zero, List.set_cons_succ]
  refine wpAnyH_take (i := 5) (v := ?_) rfl (by kernel_rfl) (by kernel_rfl) (by kernel_rfl) (fun _ _ _ h => h) (Or.inl ⟨by kernel_rfl, ?y5a⟩) hHeld ?r5a
  case y5a => (intro wq hSw; go_simp; try rfl)
  simp only [Act.put, List.setIfInBounds_toArray, List.set_cons_zero, List.set_cons_succ]
  refine wpAnyH_take (i := 6) (v := ?_) rfl (by kernel_rfl) (by kernel_rfl) (by kernel_rfl) (fun _ _ _ h => h) (Or.inl ⟨by kernel_rfl, ?y6a⟩) hHeld ?r6a
  case y6a => (intro wq hSw; have q1 := hSw; go_simp; try rfl)
  simp only [Act.put, List.setIfInBounds_toArray, List.set_cons_zero, List.set_cons_succ]
  refine wpAnyH_ready (rs := [4]) (by kernel_rfl) (by simp) ?_
  refine AllReadyH.cons rfl (fun K hK => ?_) AllReadyH.nil
  go_simp
  refine hK.out _ _ h1a (fun _ => ?_)
  clear hK K
  refine wpAnyH_ready (rs := [7]) (by kernel_rfl) (by simp) ?_
  refine AllReadyH.cons rfl (fun K hK => ?_) AllReadyH.nil
  go_simp
  refine hK.out _ _ h2a (fun _ => ?_)
  clear hK K
  refine wpAnyH_take (i := 8) (v := ?_) rfl (by kernel_rfl) (by kernel_rfl) (by kernel_rfl) (fun _ _ _ h => h) (Or.inl ⟨by kernel_rfl, ?y8a⟩) h2a ?r8a
  case y8a => (intro wq hSw; go_simp; try rfl)
  simp only [Act.put, List.setIfInBounds_toArray, List.set_cons_zero, List.set_cons_succ]
  refine wpAnyH_ready (rs := [9]) (by kernel_rfl) (by simp) ?_
  refine AllReadyH.cons rfl (fun K hK => ?_) AllReadyH.nil
  go_simp
  refine hK.out _ _ h3a (fun _ => ?_)
  clear hK K
  refine wpAnyH_done (by kernel_rfl) ?_ _
  clear hHeld hSa h1a h2a h3a raa rba cza fza
  go_wp2_with fail
  have m1 : c.co.n ≤ 140737488351232 := Nat.le_trans (Nat.le_mul_of_pos_right _ (by omega)) HR.out.co.1
  have wr1 : IntKind.i64.wrap ((c.co.n : Int) + 1) = (c.co.n : Int) + 1 := by rw [IntWalk.i64_left, IntWalk.wrap64_in] <;> omega
  obtain ⟨Y1b, Y2b, sb, rab, rbb, czb, fzb, HNb⟩ := H1.out.co HR.out.rd HR.out.co
  rw [show (Y2a.setCell ⟨w.heap.size + 1 + 1, 2, none⟩ (.slice sa.a sa.n sa.c)).heap.size = Y2a.heap.size by simp] at rab rbb
  have q0b := blk_cell H1.out.b1 3
  have ltb := H1.out.b1.lt
  have hSb : (fun X => X.cell? ⟨w.heap.size, 3, none⟩ = some (.slice c.co.a c.co.n c.co.c)) ((Y2a.setCell ⟨w.heap.size + 1 + 1, 2, none⟩ (.slice sa.a sa.n sa.c))).drew := blk_cell H1.out.b1 3
  have h1b : (fun X => X.cell? ⟨w.heap.size, 3, none⟩ = some (.slice c.co.a c.co.n c.co.c)) Y1b := (HNb.out.1.cell (p := ⟨w.heap.size, 3, none⟩) ltb).trans (blk_cell H1.out.b1 3)
  have h2b : (fun X => X.cell? ⟨w.heap.size, 3, none⟩ = some (.slice c.co.a c.co.n c.co.c)) Y2b := (HNb.out.2.1.cell (p := ⟨w.heap.size, 3, none⟩) ltb).trans (blk_cell H1.out.b1 3)
  have H2 := hid_of HNb.out.2.2
  have h3b : (fun X => X.cell? ⟨w.heap.size, 3, none⟩ = some (.slice c.co.a c.co.n c.co.c)) (Y2b.setCell ⟨w.heap.size + 1 + 1, 3, none⟩ (.slice sb.a sb.n sb.c)) := blk_cell H2.out.b1 3
  clear H1 HNb q0b
  refine wp_region_held_drew (S := (fun X => X.cell? ⟨w.heap.size, 3, none⟩ = some (.slice c.co.a c.co.n c.co.c))) (by kernel_rfl) hSb (fun hHeld => ?_)
  refine wpAnyH_take (i := 0) (v := ?_) rfl (by kernel_rfl) (by kernel_rfl) (by kernel_rfl) (fun _ _ _ h => h) (Or.inl ⟨by kernel_rfl, ?y0b⟩) hHeld ?r0b
  case y0b => (intro wq hSw; go_simp; try rfl)
  simp only [Act.put, List.setIfInBounds_toArray, List.set_cons_zero, List.set_cons_succ]
  refine wpAnyH_take (i := 1) (v := ?_) rfl (by kernel_rfl) (by kernel_rfl) (by kernel_rfl) (fun _ _ _ h => h) (Or.inl ⟨by kernel_rfl, ?y1b⟩) hHeld ?r1b
  case y1b => (intro wq hSw; have q1 := hSw; go_simp; try rfl)
  simp only [Act.put, List.setIfInBounds_toArray, List.set_cons_zero, List.set_cons_succ]
  refine wpAnyH_take (i := 2) (v := ?_) rfl (by kernel_rfl) (by kernel_rfl) (by kernel_rfl) (fun _ _ _ h => h) (Or.inl ⟨by kernel_rfl, ?y2b⟩) hHeld ?r2b
  case y2b => (intro wq hSw; go_simp; try rfl)
  simp only [Act.put, List.setIfInBounds_toArray, List.set_cons_zero, List.set_cons_succ]
  refine wpAnyH_take (i := 3) (v := ?_) rfl (by kernel_rfl) (by kernel_rfl) (by kernel_rfl) (fun _ _ _ h => h) (Or.inl ⟨by kernel_rfl, ?y3b⟩) hHeld ?r3b
  case y3b => (intro wq hSw; go_simp; try rfl)
  simp only [Act.put, List.setIfInBounds_toArray, List.set_cons_zero, List.set_cons_succ]
  refine wpAnyH_take (i := 5) (v := ?_) rfl (by kernel_rfl) (by kernel_rfl) (by kernel_rfl) (fun _ _ _ h => h) (Or.inl ⟨by kernel_rfl, ?y5b⟩) hHeld ?r5b
  case y5b => (intro wq hSw; go_simp; try rfl)
  simp only [Act.put, List.setIfInBounds_toArray, List.set_cons_zero, List.set_cons_succ]
  refine wpAnyH_take (i := 6) (v := ?_) rfl (by kernel_rfl) (by kernel_rfl) (by kernel_rfl) (fun _ _ _ h => h) (Or.inl ⟨by kernel_rfl, ?y6b⟩) hHeld ?r6b
  case y6b => (intro wq hSw; have q1 := hSw; go_simp; try rfl)
  simp only [Act.put, List.setIfInBounds_toArray, List.set_cons_zero, List.set_cons_succ]
  refine wpAnyH_ready (rs := [4]) (by kernel_rfl) (by simp) ?_
  refine AllReadyH.cons rfl (fun K hK => ?_) AllReadyH.nil
  go_simp
  refine hK.out _ _ h1b (fun _ => ?_)
  clear hK K
  refine wpAnyH_ready (rs := [7]) (by kernel_rfl) (by simp) ?_
  refine AllReadyH.cons rfl (fun K hK => ?_) AllReadyH.nil
  go_simp
  refine hK.out _ _ h2b (fun _ => ?_)
  clear hK K
  refine wpAnyH_take (i := 8) (v := ?_) rfl (by kernel_rfl) (by kernel_rfl) (by kernel_rfl) (fun _ _ _ h => h) (Or.inl ⟨by kernel_rfl, ?y8b⟩) h2b ?r8b
  case y8b => (intro wq hSw; go_simp; try rfl)
  simp only [Act.put, List.setIfInBounds_toArray, List.set_cons_zero, List.set_cons_succ]
  refine wpAnyH_ready (rs := [9]) (by kernel_rfl) (by simp) ?_
  refine AllReadyH.cons rfl (fun K hK => ?_) AllReadyH.nil
  go_simp
  refine hK.out _ _ h3b (fun _ => ?_)
  clear hK K
  refine wpAnyH_done (by kernel_rfl) ?_ _
  clear hHeld hSb h1b h2b h3b rab rbb czb fzb
  go_wp2_with fail
  have m2 : c.pr.n ≤ 140737488351232 := Nat.le_trans (Nat.le_mul_of_pos_right _ (by omega)) HR.out.pr.1
  have wr2 : IntKind.i64.wrap ((c.pr.n : Int) + 1) = (c.pr.n : Int) + 1 := by rw [IntWalk.i64_left, IntWalk.wrap64_in] <;> omega
  obtain ⟨Y1c, Y2c, sc, rac, rbc, czc, fzc, HNc⟩ := H2.out.pr HR.out.rd HR.out.pr
  rw [show (Y2b.setCell ⟨w.heap.size + 1 + 1, 3, none⟩ (.slice sb.a sb.n sb.c)).heap.size = Y2b.heap.size by simp] at rac rbc
  have q0c := blk_cell H2.out.b1 4
  have ltc := H2.out.b1.lt
  have hSc : (fun X => X.cell? ⟨w.heap.size, 4, none⟩ = some (.slice c.pr.a c.pr.n c.pr.c)) ((Y2b.setCell ⟨w.heap.size + 1 + 1, 3, none⟩ (.slice sb.a sb.n sb.c))).drew := blk_cell H2.out.b1 4
  have h1c : (fun X => X.cell? ⟨w.heap.size, 4, none⟩ = some (.slice c.pr.a c.pr.n c.pr.c)) Y1c := (HNc.out.1.cell (p := ⟨w.heap.size, 4, none⟩) ltc).trans (blk_cell H2.out.b1 4)
  have h2c : (fun X => X.cell? ⟨w.heap.size, 4, none⟩ = some (.slice c.pr.a c.pr.n c.pr.c)) Y2c := (HNc.out.2.1.cell (p := ⟨w.heap.size, 4, none⟩) ltc).trans (blk_cell H2.out.b1 4)
  have H3 := hid_of HNc.out.2.2
  have h3c : (fun X => X.cell? ⟨w.heap.size, 4, none⟩ = some (.slice c.pr.a c.pr.n c.pr.c)) (Y2c.setCell ⟨w.heap.size + 1 + 1, 4, none⟩ (.slice sc.a sc.n sc.c)) := blk_cell H3.out.b1 4
  clear H2 HNc q0c
  refine wp_region_held_drew (S := (fun X => X.cell? ⟨w.heap.size, 4, none⟩ = some (.slice c.pr.a c.pr.n c.pr.c))) (by kernel_rfl) hSc (fun hHeld => ?_)
  refine wpAnyH_take (i := 0) (v := ?_) rfl (by kernel_rfl) (by kernel_rfl) (by kernel_rfl) (fun _ _ _ h => h) (Or.inl ⟨by kernel_rfl, ?y0c⟩) hHeld ?r0c
  case y0c => (intro wq hSw; go_simp; try rfl)
  simp only [Act.put, List.setIfInBounds_toArray, List.set_cons_zero, List.set_cons_succ]
  refine wpAnyH_take (i := 1) (v := ?_) rfl (by kernel_rfl) (by kernel_rfl) (by kernel_rfl) (fun _ _ _ h => h) (Or.inl ⟨by kernel_rfl, ?y1c⟩) hHeld ?r1c
  case y1c => (intro wq hSw; have q1 := hSw; go_simp; try rfl)
  simp only [Act.put, List.setIfInBounds_toArray, List.set_cons_zero, List.set_cons_succ]
  refine wpAnyH_take (i := 2) (v := ?_) rfl (by kernel_rfl) (by kernel_rfl) (by kernel_rfl) (fun _ _ _ h => h) (Or.inl ⟨by kernel_rfl, ?y2c⟩) hHeld ?r2c
  case y2c => (intro wq hSw; go_simp; try rfl)
  simp only [Act.put, List.setIfInBounds_toArray, List.set_cons_zero, List.set_cons_succ]
  refine wpAnyH_take (i := 3) (v := ?_) rfl (by kernel_rfl) (by kernel_rfl) (by kernel_rfl) (fun _ _ _ h => h) (Or.inl ⟨by kernel_rfl, ?y3c⟩) hHeld ?r3c
  case y3c => (intro wq hSw; go_simp; try rfl)
  simp only [Act.put, List.setIfInBounds_toArray, List.set_cons_zero, List.set_cons_succ]
  refine wpAnyH_take (i := 5) (v := ?_) rfl (by kernel_rfl) (by kernel_rfl) (by kernel_rfl) (fun _ _ _ h => h) (Or.inl ⟨by kernel_rfl, ?y5c⟩) hHeld ?r5c
  case y5c => (intro wq hSw; go_simp; try rfl)
  simp only [Act.put, List.setIfInBounds_toArray, List.set_cons_zero, List.set_cons_succ]
  refine wpAnyH_take (i := 6) (v := ?_) rfl (by kernel_rfl) (by kernel_rfl) (by kernel_rfl) (fun _ _ _ h => h) (Or.inl ⟨by kernel_rfl, ?y6c⟩) hHeld ?r6c
  case y6c => (intro wq hSw; have q1 := hSw; go_simp; try rfl)
  simp only [Act.put, List.setIfInBounds_toArray, List.set_cons_zero, List.set_cons_succ]
  refine wpAnyH_ready (rs := [4]) (by kernel_rfl) (by simp) ?_
  refine AllReadyH.cons rfl (fun K hK => ?_) AllReadyH.nil
  go_simp
  refine hK.out _ _ h1c (fun _ => ?_)
  clear hK K
  refine wpAnyH_ready (rs := [7]) (by kernel_rfl) (by simp) ?_
  refine AllReadyH.cons rfl (fun K hK => ?_) AllReadyH.nil
  go_simp
  refine hK.out _ _ h2c (fun _ => ?_)
  clear hK K
  refine wpAnyH_take (i := 8) (v := ?_) rfl (by kernel_rfl) (by kernel_rfl) (by kernel_rfl) (fun _ _ _ h => h) (Or.inl ⟨by kernel_rfl, ?y8c⟩) h2c ?r8c
  case y8c => (intro wq hSw; go_simp; try rfl)
  simp only [Act.put, List.setIfInBounds_toArray, List.set_cons_zero, List.set_cons_succ]
  refine wpAnyH_ready (rs := [9]) (by kernel_rfl) (by simp) ?_
  refine AllReadyH.cons rfl (fun K hK => ?_) AllReadyH.nil
  go_simp
  refine hK.out _ _ h3c (fun _ => ?_)
  clear hK K
  refine wpAnyH_done (by kernel_rfl) ?_ _
  clear hHeld hSc h1c h2c h3c rac rbc czc fzc
  go_wp2_with fail
  have m3 : c.na.n ≤ 140737488351232 := Nat.le_trans (Nat.le_mul_of_pos_right _ (by omega)) HR.out.na.1
  have wr3 : IntKind.i64.wrap ((c.na.n : Int) + 1) = (c.na.n : Int) + 1 := by rw [IntWalk.i64_left, IntWalk.wrap64_in] <;> omega
  obtain ⟨Y1d, Y2d, sd, rad, rbd, czd, fzd, HNd⟩ := H3.out.na HR.out.rd HR.out.na
  rw [show (Y2c.setCell ⟨w.heap.size + 1 + 1, 4, none⟩ (.slice sc.a sc.n sc.c)).heap.size = Y2c.heap.size by simp] at rad rbd
  have q0d := blk_cell H3.out.b1 5
  have ltd := H3.out.b1.lt
  have hSd : (fun X => X.cell? ⟨w.heap.size, 5, none⟩ = some (.slice c.na.a c.na.n c.na.c)) ((Y2c.setCell ⟨w.heap.size + 1 + 1, 4, none⟩ (.slice sc.a sc.n sc.c))).drew := blk_cell H3.out.b1 5
  have h1d : (fun X => X.cell? ⟨w.heap.size, 5, none⟩ = some (.slice c.na.a c.na.n c.na.c)) Y1d := (HNd.out.1.cell (p := ⟨w.heap.size, 5, none⟩) ltd).trans (blk_cell H3.out.b1 5)
  have h2d : (fun X => X.cell? ⟨w.heap.size, 5, none⟩ = some (.slice c.na.a c.na.n c.na.c)) Y2d := (HNd.out.2.1.cell (p := ⟨w.heap.size, 5, none⟩) ltd).trans (blk_cell H3.out.b1 5)
  have H4 := hid_of HNd.out.2.2
  have h3d : (fun X => X.cell? ⟨w.heap.size, 5, none⟩ = some (.slice c.na.a c.na.n c.na.c)) (Y2d.setCell ⟨w.heap.size + 1 + 1, 5, none⟩ (.slice sd.a sd.n sd.c)) := blk_cell H4.out.b1 5
  clear H3 HNd q0d
  refine wp_region_held_drew (S := (fun X => X.cell? ⟨w.heap.size, 5, none⟩ = some (.slice c.na.a c.na.n c.na.c))) (by kernel_rfl) hSd (fun hHeld => ?_)
  refine wpAnyH_take (i := 0) (v := ?_) rfl (by kernel_rfl) (by kernel_rfl) (by kernel_rfl) (fun _ _ _ h => h) (Or.inl ⟨by kernel_rfl, ?y0d⟩) hHeld ?r0d
  case y0d => (intro wq hSw; go_simp; try rfl)
  simp only [Act.put, List.setIfInBounds_toArray, List.set_cons_zero, List.set_cons_succ]
  refine wpAnyH_take (i := 1) (v := ?_) rfl (by kernel_rfl) (by kernel_rfl) (by kernel_rfl) (fun _ _ _ h => h) (Or.inl ⟨by kernel_rfl, ?y1d⟩) hHeld ?r1d
  case y1d => (intro wq hSw; have q1 := hSw; go_simp; try rfl)
  simp only [Act.put, List.setIfInBounds_toArray, List.set_cons_zero, List.set_cons_succ]
  refine wpAnyH_take (i := 2) (v := ?_) rfl (by kernel_rfl) (by kernel_rfl) (by kernel_rfl) (fun _ _ _ h => h) (Or.inl ⟨by kernel_rfl, ?y2d⟩) hHeld ?r2d
  case y2d => (intro wq hSw; go_simp; try rfl)
  simp only [Act.put, List.setIfInBounds_toArray, List.set_cons_zero, List.set_cons_succ]
  refine wpAnyH_take (i := 3) (v := ?_) rfl (by kernel_rfl) (by kernel_rfl) (by kernel_rfl) (fun _ _ _ h => h) (Or.inl ⟨by kernel_rfl, ?y3d⟩) hHeld ?r3d
  case y3d => (intro wq hSw; go_simp; try rfl)
  simp only [Act.put, List.setIfInBounds_toArray, List.set_cons_zero, List.set_cons_succ]
  refine wpAnyH_take (i := 5) (v := ?_) rfl (by kernel_rfl) (by kernel_rfl) (by kernel_rfl) (fun _ _ _ h => h) (Or.inl ⟨by kernel_rfl, ?y5d⟩) hHeld ?r5d
  case y5d => (intro wq hSw; go_simp; try rfl)
  simp only [Act.put, List.setIfInBounds_toArray, List.set_cons_zero, List.set_cons_succ]
  refine wpAnyH_take (i := 6) (v := ?_) rfl (by kernel_rfl) (by kernel_rfl) (by kernel_rfl) (fun _ _ _ h => h) (Or.inl ⟨by kernel_rfl, ?y6d⟩) hHeld ?r6d
  case y6d => (intro wq hSw; have q1 := hSw; go_simp; try rfl)
  simp only [Act.put, List.setIfInBounds_toArray, List.set_cons_zero, List.set_cons_succ]
  refine wpAnyH_ready (rs := [4]) (by kernel_rfl) (by simp) ?_
  refine AllReadyH.cons rfl (fun K hK => ?_) AllReadyH.nil
  go_simp
  refine hK.out _ _ h1d (fun _ => ?_)
  clear hK K
  refine wpAnyH_ready (rs := [7]) (by kernel_rfl) (by simp) ?_
  refine AllReadyH.cons rfl (fun K hK => ?_) AllReadyH.nil
  go_simp
  refine hK.out _ _ h2d (fun _ => ?_)
  clear hK K
  refine wpAnyH_take (i := 8) (v := ?_) rfl (by kernel_rfl) (by kernel_rfl) (by kernel_rfl) (fun _ _ _ h => h) (Or.inl ⟨by kernel_rfl, ?y8d⟩) h2d ?r8d
  case y8d => (intro wq hSw; go_simp; try rfl)
  simp only [Act.put, List.setIfInBounds_toArray, List.set_cons_zero, List.set_cons_succ]
  refine wpAnyH_ready (rs := [9]) (by kernel_rfl) (by simp) ?_
  refine AllReadyH.cons rfl (fun K hK => ?_) AllReadyH.nil
  go_simp
  refine hK.out _ _ h3d (fun _ => ?_)
  clear hK K
  refine wpAnyH_done (by kernel_rfl) ?_ _
  clear hHeld hSd h1d h2d h3d rad rbd czd fzd
  go_wp2_with fail
  have m4 : c.ex.n ≤ 140737488351232 := Nat.le_trans (Nat.le_mul_of_pos_right _ (by omega)) HR.out.ex.1
  have wr4 : IntKind.i64.wrap ((c.ex.n : Int) + 1) = (c.ex.n : Int) + 1 := by rw [IntWalk.i64_left, IntWalk.wrap64_in] <;> omega
  obtain ⟨Y1e, Y2e, se, rae, rbe, cze, fze, HNe⟩ := H4.out.ex HR.out.rd HR.out.ex
  rw [show (Y2d.setCell ⟨w.heap.size + 1 + 1, 5, none⟩ (.slice sd.a sd.n sd.c)).heap.size = Y2d.heap.size by simp] at rae rbe
  have q0e := blk_cell H4.out.b1 6
  have lte := H4.out.b1.lt
  have hSe : (fun X => X.cell? ⟨w.heap.size, 6, none⟩ = some (.slice c.ex.a c.ex.n c.ex.c)) ((Y2d.setCell ⟨w.heap.size + 1 + 1, 5, none⟩ (.slice sd.a sd.n sd.c))).drew := blk_cell H4.out.b1 6
  have h1e : (fun X => X.cell? ⟨w.heap.size, 6, none⟩ = some (.slice c.ex.a c.ex.n c.ex.c)) Y1e := (HNe.out.1.cell (p := ⟨w.heap.size, 6, none⟩) lte).trans (blk_cell H4.out.b1 6)
  have h2e : (fun X => X.cell? ⟨w.heap.size, 6, none⟩ = some (.slice c.ex.a c.ex.n c.ex.c)) Y2e := (HNe.out.2.1.cell (p := ⟨w.heap.size, 6, none⟩) lte).trans (blk_cell H4.out.b1 6)
  have H5 := hid_of HNe.out.2.2
  have h3e : (fun X => X.cell? ⟨w.heap.size, 6, none⟩ = some (.slice c.ex.a c.ex.n c.ex.c)) (Y2e.setCell ⟨w.heap.size + 1 + 1, 6, none⟩ (.slice se.a se.n se.c)) := blk_cell H5.out.b1 6
  clear H4 HNe q0e
  refine wp_region_held_drew (S := (fun X => X.cell? ⟨w.heap.size, 6, none⟩ = some (.slice c.ex.a c.ex.n c.ex.c))) (by kernel_rfl) hSe (fun hHeld => ?_)
  refine wpAnyH_take (i := 0) (v := ?_) rfl (by kernel_rfl) (by kernel_rfl) (by kernel_rfl) (fun _ _ _ h => h) (Or.inl ⟨by kernel_rfl, ?y0e⟩) hHeld ?r0e
  case y0e => (intro wq hSw; go_simp; try rfl)
  simp only [Act.put, List.setIfInBounds_toArray, List.set_cons_zero, List.set_cons_succ]
  refine wpAnyH_take (i := 1) (v := ?_) rfl (by kernel_rfl) (by kernel_rfl) (by kernel_rfl) (fun _ _ _ h => h) (Or.inl ⟨by kernel_rfl, ?y1e⟩) hHeld ?r1e
  case y1e => (intro wq hSw; have q1 := hSw; go_simp; try rfl)
  simp only [Act.put, List.setIfInBounds_toArray, List.set_cons_zero, List.set_cons_succ]
  refine wpAnyH_take (i := 2) (v := ?_) rfl (by kernel_rfl) (by kernel_rfl) (by kernel_rfl) (fun _ _ _ h => h) (Or.inl ⟨by kernel_rfl, ?y2e⟩) hHeld ?r2e
  case y2e => (intro wq hSw; go_simp; try rfl)
  simp only [Act.put, List.setIfInBounds_toArray, List.set_cons_zero, List.set_cons_succ]
  refine wpAnyH_take (i := 3) (v := ?_) rfl (by kernel_rfl) (by kernel_rfl) (by kernel_rfl) (fun _ _ _ h => h) (Or.inl ⟨by kernel_rfl, ?y3e⟩) hHeld ?r3e
  case y3e => (intro wq hSw; go_simp; try rfl)
  simp only [Act.put, List.setIfInBounds_toArray, List.set_cons_zero, List.set_cons_succ]
  refine wpAnyH_take (i := 5) (v := ?_) rfl (by kernel_rfl) (by kernel_rfl) (by kernel_rfl) (fun _ _ _ h => h) (Or.inl ⟨by kernel_rfl, ?y5e⟩) hHeld ?r5e
  case y5e => (intro wq hSw; go_simp; try rfl)
  simp only [Act.put, List.setIfInBounds_toArray, List.set_cons_zero, List.set_cons_succ]
  refine wpAnyH_take (i := 6) (v := ?_) rfl (by kernel_rfl) (by kernel_rfl) (by kernel_rfl) (fun _ _ _ h => h) (Or.inl ⟨by kernel_rfl, ?y6e⟩) hHeld ?r6e
  case y6e => (intro wq hSw; have q1 := hSw; go_simp; try rfl)
  simp only [Act.put, List.setIfInBounds_toArray, List.set_cons_zero, List.set_cons_succ]
  refine wpAnyH_ready (rs := [4]) (by kernel_rfl) (by simp) ?_
  refine AllReadyH.cons rfl (fun K hK => ?_) AllReadyH.nil
  go_simp
  refine hK.out _ _ h1e (fun _ => ?_)
  clear hK K
  refine wpAnyH_ready (rs := [7]) (by kernel_rfl) (by simp) ?_
  refine AllReadyH.cons rfl (fun K hK => ?_) AllReadyH.nil
  go_simp
  refine hK.out _ _ h2e (fun _ => ?_)
  clear hK K
  refine wpAnyH_take (i := 8) (v := ?_) rfl (by kernel_rfl) (by kernel_rfl) (by kernel_rfl) (fun _ _ _ h => h) (Or.inl ⟨by kernel_rfl, ?y8e⟩) h2e ?r8e
  case y8e => (intro wq hSw; go_simp; try rfl)
  simp only [Act.put, List.setIfInBounds_toArray, List.set_cons_zero, List.set_cons_succ]
  refine wpAnyH_ready (rs := [9]) (by kernel_rfl) (by simp) ?_
  refine AllReadyH.cons rfl (fun K hK => ?_) AllReadyH.nil
  go_simp
  refine hK.out _ _ h3e (fun _ => ?_)
  clear hK K
  refine wpAnyH_done (by kernel_rfl) ?_ _
  clear hHeld hSe h1e h2e h3e rae rbe cze fze
  go_wp2_with fail
  have m5 : c.va.n ≤ 140737488351232 := Nat.le_trans (Nat.le_mul_of_pos_right _ (by omega)) HR.out.va.1
  have wr5 : IntKind.i64.wrap ((c.va.n : Int) + 1) = (c.va.n : Int) + 1 := by rw [IntWalk.i64_left, IntWalk.wrap64_in] <;> omega
  obtain ⟨Y1f, Y2f, sf, raf, rbf, czf, fzf, HNf⟩ := H5.out.va HR.out.rd HR.out.va
  rw [show (Y2e.setCell ⟨w.heap.size + 1 + 1, 6, none⟩ (.slice se.a se.n se.c)).heap.size = Y2e.heap.size by simp] at raf rbf
  have q0f := blk_cell H5.out.b1 8
  have ltf := H5.out.b1.lt
  have hSf : (fun X => X.cell? ⟨w.heap.size, 8, none⟩ = some (.slice c.va.a c.va.n c.va.c)) ((Y2e.setCell ⟨w.heap.size + 1 + 1, 6, none⟩ (.slice se.a se.n se.c))).drew := blk_cell H5.out.b1 8
  have h1f : (fun X => X.cell? ⟨w.heap.size, 8, none⟩ = some (.slice c.va.a c.va.n c.va.c)) Y1f := (HNf.out.1.cell (p := ⟨w.heap.size, 8, none⟩) ltf).trans (blk_cell H5.out.b1 8)
  have h2f : (fun X => X.cell? ⟨w.heap.size, 8, none⟩ = some (.slice c.va.a c.va.n c.va.c)) Y2f := (HNf.out.2.1.cell (p := ⟨w.heap.size, 8, none⟩) ltf).trans (blk_cell H5.out.b1 8)
  have H6 := hid_of HNf.out.2.2
  have h3f : (fun X => X.cell? ⟨w.heap.size, 8, none⟩ = some (.slice c.va.a c.va.n c.va.c)) (Y2f.setCell ⟨w.heap.size + 1 + 1, 8, none⟩ (.slice sf.a sf.n sf.c)) := blk_cell H6.out.b1 8
  clear H5 HNf q0f
  refine wp_region_held_drew (S := (fun X => X.cell? ⟨w.heap.size, 8, none⟩ = some (.slice c.va.a c.va.n c.va.c))) (by kernel_rfl) hSf (fun hHeld => ?_)
  refine wpAnyH_take (i := 0) (v := ?_) rfl (by kernel_rfl) (by kernel_rfl) (by kernel_rfl) (fun _ _ _ h => h) (Or.inl ⟨by kernel_rfl, ?y0f⟩) hHeld ?r0f
  case y0f => (intro wq hSw; go_simp; try rfl)
  simp only [Act.put, List.setIfInBounds_toArray, List.set_cons_zero, List.set_cons_succ]
  refine wpAnyH_take (i := 1) (v := ?_) rfl (by kernel_rfl) (by kernel_rfl) (by kernel_rfl) (fun _ _ _ h => h) (Or.inl ⟨by kernel_rfl, ?y1f⟩) hHeld ?r1f
  case y1f => (intro wq hSw; have q1 := hSw; go_simp; try rfl)
  simp only [Act.put, List.setIfInBounds_toArray, List.set_cons_zero, List.set_cons_succ]
  refine wpAnyH_take (i := 2) (v := ?_) rfl (by kernel_rfl) (by kernel_rfl) (by kernel_rfl) (fun _ _ _ h => h) (Or.inl ⟨by kernel_rfl, ?y2f⟩) hHeld ?r2f
  case y2f => (intro wq hSw; go_simp; try rfl)
  simp only [Act.put, List.setIfInBounds_toArray, List.set_cons_zero, List.set_cons_succ]
  refine wpAnyH_take (i := 3) (v := ?_) rfl (by kernel_rfl) (by kernel_rfl) (by kernel_rfl) (fun _ _ _ h => h) (Or.inl ⟨by kernel_rfl, ?y3f⟩) hHeld ?r3f
  case y3f => (intro wq hSw; go_simp; try rfl)
  simp only [Act.put, List.setIfInBounds_toArray, List.set_cons_zero, List.set_cons_succ]
  refine wpAnyH_take (i := 5) (v := ?_) rfl (by kernel_rfl) (by kernel_rfl) (by kernel_rfl) (fun _ _ _ h => h) (Or.inl ⟨by kernel_rfl, ?y5f⟩) hHeld ?r5f
  case y5f => (intro wq hSw; go_simp; try rfl)
  simp only [Act.put, List.setIfInBounds_toArray, List.set_cons_zero, List.set_cons_succ]
  refine wpAnyH_take (i := 6) (v := ?_) rfl (by kernel_rfl) (by kernel_rfl) (by kernel_rfl) (fun _ _ _ h => h) (Or.inl ⟨by kernel_rfl, ?y6f⟩) hHeld ?r6f
  case y6f => (intro wq hSw; have q1 := hSw; go_simp; try rfl)
  simp only [Act.put, List.setIfInBounds_toArray, List.set_cons_zero, List.set_cons_succ]
  refine wpAnyH_ready (rs := [4]) (by kernel_rfl) (by simp) ?_
  refine AllReadyH.cons rfl (fun K hK => ?_) AllReadyH.nil
  go_simp
  refine hK.out _ _ h1f (fun _ => ?_)
  clear hK K
  refine wpAnyH_ready (rs := [7]) (by kernel_rfl) (by simp) ?_
  refine AllReadyH.cons rfl (fun K hK => ?_) AllReadyH.nil
  go_simp
  refine hK.out _ _ h2f (fun _ => ?_)
  clear hK K
  refine wpAnyH_take (i := 8) (v := ?_) rfl (by kernel_rfl) (by kernel_rfl) (by kernel_rfl) (fun _ _ _ h => h) (Or.inl ⟨by kernel_rfl, ?y8f⟩) h2f ?r8f
  case y8f => (intro wq hSw; go_simp; try rfl)
  simp only [Act.put, List.setIfInBounds_toArray, List.set_cons_zero, List.set_cons_succ]
  refine wpAnyH_ready (rs := [9]) (by kernel_rfl) (by simp) ?_
  refine AllReadyH.cons rfl (fun K hK => ?_) AllReadyH.nil
  go_simp
  refine hK.out _ _ h3f (fun _ => ?_)
  clear hK K
  refine wpAnyH_done (by kernel_rfl) ?_ _
  clear hHeld hSf h1f h2f h3f raf rbf czf fzf
  go_wp2_with fail
  have m6 : c.sh.n ≤ 140737488351232 := Nat.le_trans (Nat.le_mul_of_pos_right _ (by omega)) HR.out.sh.1
  have wr6 : IntKind.i64.wrap ((c.sh.n : Int) + 1) = (c.sh.n : Int) + 1 := by rw [IntWalk.i64_left, IntWalk.wrap64_in] <;> omega
  obtain ⟨Y1g, Y2g, sg, rag, rbg, czg, fzg, HNg⟩ := H6.out.sh HR.out.rd HR.out.sh
  rw [show (Y2f.setCell ⟨w.heap.size + 1 + 1, 8, none⟩ (.slice sf.a sf.n sf.c)).heap.size = Y2f.heap.size by simp] at rag rbg
  have q0g := blk_cell H6.out.b1 9
  have ltg := H6.out.b1.lt
  have hSg : (fun X => X.cell? ⟨w.heap.size, 9, none⟩ = some (.slice c.sh.a c.sh.n c.sh.c)) ((Y2f.setCell ⟨w.heap.size + 1 + 1, 8, none⟩ (.slice sf.a sf.n sf.c))).drew := blk_cell H6.out.b1 9
  have h1g : (fun X => X.cell? ⟨w.heap.size, 9, none⟩ = some (.slice c.sh.a c.sh.n c.sh.c)) Y1g := (HNg.out.1.cell (p := ⟨w.heap.size, 9, none⟩) ltg).trans (blk_cell H6.out.b1 9)
  have h2g : (fun X => X.cell? ⟨w.heap.size, 9, none⟩ = some (.slice c.sh.a c.sh.n c.sh.c)) Y2g := (HNg.out.2.1.cell (p := ⟨w.heap.size, 9, none⟩) ltg).trans (blk_cell H6.out.b1 9)
  have H7 := hid_of HNg.out.2.2
  have h3g : (fun X => X.cell? ⟨w.heap.size, 9, none⟩ = some (.slice c.sh.a c.sh.n c.sh.c)) (Y2g.setCell ⟨w.heap.size + 1 + 1, 9, none⟩ (.slice sg.a sg.n sg.c)) := blk_cell H7.out.b1 9
  clear H6 HNg q0g
  refine wp_region_held_drew (S := (fun X => X.cell? ⟨w.heap.size, 9, none⟩ = some (.slice c.sh.a c.sh.n c.sh.c))) (by kernel_rfl) hSg (fun hHeld => ?_)
  refine wpAnyH_take (i := 0) (v := ?_) rfl (by kernel_rfl) (by kernel_rfl) (by kernel_rfl) (fun _ _ _ h => h) (Or.inl ⟨by kernel_rfl, ?y0g⟩) hHeld ?r0g
  case y0g => (intro wq hSw; go_simp; try rfl)
  simp only [Act.put, List.setIfInBounds_toArray, List.set_cons_zero, List.set_cons_succ]
  refine wpAnyH_take (i := 1) (v := ?_) rfl (by kernel_rfl) (by kernel_rfl) (by kernel_rfl) (fun _ _ _ h => h) (Or.inl ⟨by kernel_rfl, ?y1g⟩) hHeld ?r1g
  case y1g => (intro wq hSw; have q1 := hSw; go_simp; try rfl)
  simp only [Act.put, List.setIfInBounds_toArray, List.set_cons_zero, List.set_cons_succ]
  refine wpAnyH_take (i := 2) (v := ?_) rfl (by kernel_rfl) (by kernel_rfl) (by kernel_rfl) (fun _ _ _ h => h) (Or.inl ⟨by kernel_rfl, ?y2g⟩) hHeld ?r2g
  case y2g => (intro wq hSw; go_simp; try rfl)
  simp only [Act.put, List.setIfInBounds_toArray, List.set_cons_zero, List.set_cons_succ]
  refine wpAnyH_take (i := 3) (v := ?_) rfl (by kernel_rfl) (by kernel_rfl) (by kernel_rfl) (fun _ _ _ h => h) (Or.inl ⟨by kernel_rfl, ?y3g⟩) hHeld ?r3g
  case y3g => (intro wq hSw; go_simp; try rfl)
  simp only [Act.put, List.setIfInBounds_toArray, List.set_cons_zero, List.set_cons_succ]
  refine wpAnyH_take (i := 5) (v := ?_) rfl (by kernel_rfl) (by kernel_rfl) (by kernel_rfl) (fun _ _ _ h => h) (Or.inl ⟨by kernel_rfl, ?y5g⟩) hHeld ?r5g
  case y5g => (intro wq hSw; go_simp; try rfl)
  simp only [Act.put, List.setIfInBounds_toArray, List.set_cons_zero, List.set_cons_succ]
  refine wpAnyH_take (i := 6) (v := ?_) rfl (by kernel_rfl) (by kernel_rfl) (by kernel_rfl) (fun _ _ _ h => h) (Or.inl ⟨by kernel_rfl, ?y6g⟩) hHeld ?r6g
  case y6g => (intro wq hSw; have q1 := hSw; go_simp; try rfl)
  simp only [Act.put, List.setIfInBounds_toArray, List.set_cons_zero, List.set_cons_succ]
  refine wpAnyH_ready (rs := [4]) (by kernel_rfl) (by simp) ?_
  refine AllReadyH.cons rfl (fun K hK => ?_) AllReadyH.nil
  go_simp
  refine hK.out _ _ h1g (fun _ => ?_)
  clear hK K
  refine wpAnyH_ready (rs := [7]) (by kernel_rfl) (by simp) ?_
  refine AllReadyH.cons rfl (fun K hK => ?_) AllReadyH.nil
  go_simp
  refine hK.out _ _ h2g (fun _ => ?_)
  clear hK K
  refine wpAnyH_take (i := 8) (v := ?_) rfl (by kernel_rfl) (by kernel_rfl) (by kernel_rfl) (fun _ _ _ h => h) (Or.inl ⟨by kernel_rfl, ?y8g⟩) h2g ?r8g
  case y8g => (intro wq hSw; go_simp; try rfl)
  simp only [Act.put, List.setIfInBounds_toArray, List.set_cons_zero, List.set_cons_succ]
  refine wpAnyH_ready (rs := [9]) (by kernel_rfl) (by simp) ?_
  refine AllReadyH.cons rfl (fun K hK => ?_) AllReadyH.nil
  go_simp
  refine hK.out _ _ h3g (fun _ => ?_)
  clear hK K
  refine wpAnyH_done (by kernel_rfl) ?_ _
  clear hHeld hSg h1g h2g h3g rag rbg czg fzg
  go_wp2_with fail
  have m7 : c.st.n ≤ 140737488351232 := Nat.le_trans (Nat.le_mul_of_pos_right _ (by omega)) HR.out.st.1
  have wr7 : IntKind.i64.wrap ((c.st.n : Int) + 1) = (c.st.n : Int) + 1 := by rw [IntWalk.i64_left, IntWalk.wrap64_in] <;> omega
  obtain ⟨Y1h, Y2h, sh, rah, rbh, czh, fzh, HNh⟩ := H7.out.st HR.out.rd HR.out.st
  rw [show (Y2g.setCell ⟨w.heap.size + 1 + 1, 9, none⟩ (.slice sg.a sg.n sg.c)).heap.size = Y2g.heap.size by simp] at rah rbh
  have q0h := blk_cell H7.out.b1 10
  have lth := H7.out.b1.lt
  have hSh : (fun X => X.cell? ⟨w.heap.size, 10, none⟩ = some (.slice c.st.a c.st.n c.st.c)) ((Y2g.setCell ⟨w.heap.size + 1 + 1, 9, none⟩ (.slice sg.a sg.n sg.c))).drew := blk_cell H7.out.b1 10
  have h1h : (fun X => X.cell? ⟨w.heap.size, 10, none⟩ = some (.slice c.st.a c.st.n c.st.c)) Y1h := (HNh.out.1.cell (p := ⟨w.heap.size, 10, none⟩) lth).trans (blk_cell H7.out.b1 10)
  have h2h : (fun X => X.cell? ⟨w.heap.size, 10, none⟩ = some (.slice c.st.a c.st.n c.st.c)) Y2h := (HNh.out.2.1.cell (p := ⟨w.heap.size, 10, none⟩) lth).trans (blk_cell H7.out.b1 10)
  have H8 := hid_of HNh.out.2.2
  have h3h : (fun X => X.cell? ⟨w.heap.size, 10, none⟩ = some (.slice c.st.a c.st.n c.st.c)) (Y2h.setCell ⟨w.heap.size + 1 + 1, 10, none⟩ (.slice sh.a sh.n sh.c)) := blk_cell H8.out.b1 10
  clear H7 HNh q0h
  refine wp_region_held_drew (S := (fun X => X.cell? ⟨w.heap.size, 10, none⟩ = some (.slice c.st.a c.st.n c.st.c))) (by kernel_rfl) hSh (fun hHeld => ?_)
  refine wpAnyH_take (i := 0) (v := ?_) rfl (by kernel_rfl) (by kernel_rfl) (by kernel_rfl) (fun _ _ _ h => h) (Or.inl ⟨by kernel_rfl, ?y0h⟩) hHeld ?r0h
  case y0h => (intro wq hSw; go_simp; try rfl)
  simp only [Act.put, List.setIfInBounds_toArray, List.set_cons_zero, List.set_cons_succ]
  refine wpAnyH_take (i := 1) (v := ?_) rfl (by kernel_rfl) (by kernel_rfl) (by kernel_rfl) (fun _ _ _ h => h) (Or.inl ⟨by kernel_rfl, ?y1h⟩) hHeld ?r1h
  case y1h => (intro wq hSw; have q1 := hSw; go_simp; try rfl)
  simp only [Act.put, List.setIfInBounds_toArray, List.set_cons_zero, List.set_cons_succ]
  refine wpAnyH_take (i := 2) (v := ?_) rfl (by kernel_rfl) (by kernel_rfl) (by kernel_rfl) (fun _ _ _ h => h) (Or.inl ⟨by kernel_rfl, ?y2h⟩) hHeld ?r2h
  case y2h => (intro wq hSw; go_simp; try rfl)
  simp only [Act.put, List.setIfInBounds_toArray, List.set_cons_zero, List.set_cons_succ]
  refine wpAnyH_take (i := 3) (v := ?_) rfl (by kernel_rfl) (by kernel_rfl) (by kernel_rfl) (fun _ _ _ h => h) (Or.inl ⟨by kernel_rfl, ?y3h⟩) hHeld ?r3h
  case y3h => (intro wq hSw; go_simp; try rfl)
  simp only [Act.put, List.setIfInBounds_toArray, List.set_cons_zero, List.set_cons_succ]
  refine wpAnyH_take (i := 5) (v := ?_) rfl (by kernel_rfl) (by kernel_rfl) (by kernel_rfl) (fun _ _ _ h => h) (Or.inl ⟨by kernel_rfl, ?y5h⟩) hHeld ?r5h
  case y5h => (intro wq hSw; go_simp; try rfl)
  simp only [Act.put, List.setIfInBounds_toArray, List.set_cons_zero, List.set_cons_succ]
  refine wpAnyH_take (i := 6) (v := ?_) rfl (by kernel_rfl) (by kernel_rfl) (by kernel_rfl) (fun _ _ _ h => h) (Or.inl ⟨by kernel_rfl, ?y6h⟩) hHeld ?r6h
  case y6h => (intro wq hSw; have q1 := hSw; go_simp; try rfl)
  simp only [Act.put, List.setIfInBounds_toArray, List.set_cons_zero, List.set_cons_succ]
  refine wpAnyH_ready (rs := [4]) (by kernel_rfl) (by simp) ?_
  refine AllReadyH.cons rfl (fun K hK => ?_) AllReadyH.nil
  go_simp
  refine hK.out _ _ h1h (fun _ => ?_)
  clear hK K
  refine wpAnyH_ready (rs := [7]) (by kernel_rfl) (by simp) ?_
  refine AllReadyH.cons rfl (fun K hK => ?_) AllReadyH.nil
  go_simp
  refine hK.out _ _ h2h (fun _ => ?_)
  clear hK K
  refine wpAnyH_take (i := 8) (v := ?_) rfl (by kernel_rfl) (by kernel_rfl) (by kernel_rfl) (fun _ _ _ h => h) (Or.inl ⟨by kernel_rfl, ?y8h⟩) h2h ?r8h
  case y8h => (intro wq hSw; go_simp; try rfl)
  simp only [Act.put, List.setIfInBounds_toArray, List.set_cons_zero, List.set_cons_succ]
  refine wpAnyH_ready (rs := [9]) (by kernel_rfl) (by simp) ?_
  refine AllReadyH.cons rfl (fun K hK => ?_) AllReadyH.nil
  go_simp
  refine hK.out _ _ h3h (fun _ => ?_)
  clear hK K
  refine wpAnyH_done (by kernel_rfl) ?_ _
  clear hHeld hSh h1h h2h h3h rah rbh czh fzh
  go_wp2_with fail
  have m8 : c.fx.n ≤ 140737488351232 := Nat.le_trans (Nat.le_mul_of_pos_right _ (by omega)) HR.out.fx.1
  have wr8 : IntKind.i64.wrap ((c.fx.n : Int) + 1) = (c.fx.n : Int) + 1 := by rw [IntWalk.i64_left, IntWalk.wrap64_in] <;> omega
  obtain ⟨Y1i, Y2i, si, rai, rbi, czi, fzi, HNi⟩ := H8.out.fx HR.out.rd HR.out.fx
  rw [show (Y2h.setCell ⟨w.heap.size + 1 + 1, 10, none⟩ (.slice sh.a sh.n sh.c)).heap.size = Y2h.heap.size by simp] at rai rbi
  have q0i := blk_cell H8.out.b1 12
  have lti := H8.out.b1.lt
  have hSi : (fun X => X.cell? ⟨w.heap.size, 12, none⟩ = some (.slice c.fx.a c.fx.n c.fx.c)) ((Y2h.setCell ⟨w.heap.size + 1 + 1, 10, none⟩ (.slice sh.a sh.n sh.c))).drew := blk_cell H8.out.b1 12
  have h1i : (fun X => X.cell? ⟨w.heap.size, 12, none⟩ = some (.slice c.fx.a c.fx.n c.fx.c)) Y1i := (HNi.out.1.cell (p := ⟨w.heap.size, 12, none⟩) lti).trans (blk_cell H8.out.b1 12)
  have h2i : (fun X => X.cell? ⟨w.heap.size, 12, none⟩ = some (.slice c.fx.a c.fx.n c.fx.c)) Y2i := (HNi.out.2.1.cell (p := ⟨w.heap.size, 12, none⟩) lti).trans (blk_cell H8.out.b1 12)
  have H9 := hid_of HNi.out.2.2
  have h3i : (fun X => X.cell? ⟨w.heap.size, 12, none⟩ = some (.slice c.fx.a c.fx.n c.fx.c)) (Y2i.setCell ⟨w.heap.size + 1 + 1, 12, none⟩ (.slice si.a si.n si.c)) := blk_cell H9.out.b1 12
  clear H8 HNi q0i
  refine wp_region_held_drew (S := (fun X => X.cell? ⟨w.heap.size, 12, none⟩ = some (.slice c.fx.a c.fx.n c.fx.c))) (by kernel_rfl) hSi (fun hHeld => ?_)
  refine wpAnyH_take (i := 0) (v := ?_) rfl (by kernel_rfl) (by kernel_rfl) (by kernel_rfl) (fun _ _ _ h => h) (Or.inl ⟨by kernel_rfl, ?y0i⟩) hHeld ?r0i
  case y0i => (intro wq hSw; go_simp; try rfl)
  simp only [Act.put, List.setIfInBounds_toArray, List.set_cons_zero, List.set_cons_succ]
  refine wpAnyH_take (i := 1) (v := ?_) rfl (by kernel_rfl) (by kernel_rfl) (by kernel_rfl) (fun _ _ _ h => h) (Or.inl ⟨by kernel_rfl, ?y1i⟩) hHeld ?r1i
  case y1i => (intro wq hSw; have q1 := hSw; go_simp; try rfl)
  simp only [Act.put, List.setIfInBounds_toArray, List.set_cons_zero, List.set_cons_succ]
  refine wpAnyH_take (i := 2) (v := ?_) rfl (by kernel_rfl) (by kernel_rfl) (by kernel_rfl) (fun _ _ _ h => h) (Or.inl ⟨by kernel_rfl, ?y2i⟩) hHeld ?r2i
  case y2i => (intro wq hSw; go_simp; try rfl)
  simp only [Act.put, List.setIfInBounds_toArray, List.set_cons_zero, List.set_cons_succ]
  refine wpAnyH_take (i := 3) (v := ?_) rfl (by kernel_rfl) (by kernel_rfl) (by kernel_rfl) (fun _ _ _ h => h) (Or.inl ⟨by kernel_rfl, ?y3i⟩) hHeld ?r3i
  case y3i => (intro wq hSw; go_simp; try rfl)
  simp only [Act.put, List.setIfInBounds_toArray, List.set_cons_zero, List.set_cons_succ]
  refine wpAnyH_take (i := 5) (v := ?_) rfl (by kernel_rfl) (by kernel_rfl) (by kernel_rfl) (fun _ _ _ h => h) (Or.inl ⟨by kernel_rfl, ?y5i⟩) hHeld ?r5i
  case y5i => (intro wq hSw; go_simp; try rfl)
  simp only [Act.put, List.setIfInBounds_toArray, List.set_cons_zero, List.set_cons_succ]
  refine wpAnyH_take (i := 6) (v := ?_) rfl (by kernel_rfl) (by kernel_rfl) (by kernel_rfl) (fun _ _ _ h => h) (Or.inl ⟨by kernel_rfl, ?y6i⟩) hHeld ?r6i
  case y6i => (intro wq hSw; have q1 := hSw; go_simp; try rfl)
  simp only [Act.put, List.setIfInBounds_toArray, List.set_cons_zero, List.set_cons_succ]
  refine wpAnyH_ready (rs := [4]) (by kernel_rfl) (by simp) ?_
  refine AllReadyH.cons rfl (fun K hK => ?_) AllReadyH.nil
  go_simp
  refine hK.out _ _ h1i (fun _ => ?_)
  clear hK K
  refine wpAnyH_ready (rs := [7]) (by kernel_rfl) (by simp) ?_
  refine AllReadyH.cons rfl (fun K hK => ?_) AllReadyH.nil
  go_simp
  refine hK.out _ _ h2i (fun _ => ?_)
  clear hK K
  refine wpAnyH_take (i := 8) (v := ?_) rfl (by kernel_rfl) (by kernel_rfl) (by kernel_rfl) (fun _ _ _ h => h) (Or.inl ⟨by kernel_rfl, ?y8i⟩) h2i ?r8i
  case y8i => (intro wq hSw; go_simp; try rfl)
  simp only [Act.put, List.setIfInBounds_toArray, List.set_cons_zero, List.set_cons_succ]
  refine wpAnyH_ready (rs := [9]) (by kernel_rfl) (by simp) ?_
  refine AllReadyH.cons rfl (fun K hK => ?_) AllReadyH.nil
  go_simp
  refine hK.out _ _ h3i (fun _ => ?_)
  clear hK K
  refine wpAnyH_done (by kernel_rfl) ?_ _
  clear hHeld hSi h1i h2i h3i rai rbi czi fzi
  have hnd : c.ds.n = o.descs.length := by obtain ⟨l, e1, e2, e3⟩ := HR.out.rd.ds; rw [e2.len, ← e1, List.length_map]
  have md : c.ds.n ≤ 140737488351232 := Nat.le_trans (Nat.le_mul_of_pos_right _ (by omega)) HR.out.ds.1
  obtain ⟨Yd, rd1, cd1, fd1, HD⟩ := H9.out.mkds HR.out.rd HR.out.ds rfl
  rw [show (Y2i.setCell ⟨w.heap.size + 1 + 1, 12, none⟩ (.slice si.a si.n si.c)).heap.size = Y2i.heap.size by simp] at rd1 HD
  have qd := blk_cell H9.out.b1 11
  have qd : ((Y2i.setCell ⟨w.heap.size + 1 + 1, 12, none⟩ (.slice si.a si.n si.c))).cell? ⟨w.heap.size, 11, none⟩ = some (.slice c.ds.a c.ds.n c.ds.c) := qd
  have HND := hid_of hnd
  clear hnd H9
  go_wp2_with fail
  clear rd1 cd1 fd1 qd
  generalize hc2 : ({ c with im := sa, co := sb, pr := sc, na := sd, ex := se, va := sf, sh := sg, st := sh, fx := si, ds := ⟨some ⟨Y2i.heap.size, 0, none⟩, c.ds.n, c.ds.n⟩ } : Oc) = c2 at HD
  clear hc2
  generalize hG : Y2i.heap.size = G at HD ⊢
  clear hG
  go_loopg [4] c.ds.n (fun gf s4 wx => ∃ (i : Nat) (l : List ((Int × Int × List Int) × Sl)), s4 = .int .i64 (i : Int) ∧ i + gf = c.ds.n ∧ Hid (l.length = i ∧ CL w wx c c2 o G c.ds.n l))
  case atStart => exact ⟨0, [], rfl, by omega, rfl, HD.out⟩
  case round =>
    clear HD
    obtain ⟨i, l, rfl, hi, HC⟩ := hrel
    have r1 : wr.cell? ⟨w.heap.size, 11, none⟩ = some (.slice c.ds.a c.ds.n c.ds.c) := blk_cell HC.out.2.b1 11
    by_cases hlt : i < c.ds.n
    · obtain ⟨g', rfl⟩ : ∃ g', gk = g' + 1 := ⟨gk - 1, by omega⟩
      have d1 : decide ((i : Int) < (c.ds.n : Int)) = true := decide_eq_true (by omega)
      have j0 : (0 : Int) ≤ (i : Int) := by omega
      have j1 : (i : Int) < (c.ds.n : Int) := by omega
      obtain ⟨xs, hxs, rxs, txs⟩ := HR.out.tg
      have hxl : xs.length = o.descs.length := by rw [← hxs, List.length_map]
      have hix : i < xs.length := by rw [hxl, ← HND.out]; exact hlt
      obtain ⟨b, off, ha, hc⟩ := elk1 rxs (fun _ => rfl) d0 i hix
      have xm : xs.getD i d0 ∈ xs := by rw [getD_at _ _ i hix]; exact List.getElem_mem _
      have hp : o.descs[i]? = some (xs.getD i d0).1 := by rw [← hxs, List.getElem?_map, List.getElem?_eq_getElem hix, getD_at _ _ i hix]; rfl
      obtain ⟨rt, rm⟩ := txs _ xm
      generalize xs.getD i d0 = p at hc hp rt rm
      have NX := HC.out.2.next p rt rm (by rw [HC.out.1]; exact hlt) (by rw [HC.out.1]; exact hp)
      rw [HC.out.1] at NX
      obtain ⟨Z1, Y1, Y2, s', st1, mk1, ap1, ⟨u1, cu1⟩, fz1, HN⟩ := NX
      have b3 := HC.out.2.b3
      have b1 := HC.out.2.b1
      have hlt3 := HC.out.2.lt
      have hbe := HC.out.2.be
      have hdd := HC.out.2.hd
      have SF : Hid (∀ Y, Tq wr Y (fun k => k = G) → (fun X => X.cell? ⟨w.heap.size + 1 + 1, 11, none⟩ = some (.slice (some ⟨G, 0, none⟩) c.ds.n c.ds.n) ∧ X.cell? ⟨w.heap.size, 11, none⟩ = some (.slice (some ⟨b, off, none⟩) c.ds.n c.ds.c) ∧ (loadD ⟨b, off + i * 3, none⟩).run Try.prog X = .ok (.agg (dEnc p)) X ∧ X.cell? ⟨b, off + i * 3 + 2, none⟩ = some (.slice p.2.a p.2.n p.2.c)) Y) := fun Y t => by
        have bY : Below w.heap.size w Y := Below.of_tq hbe t fun k hk => by omega
        have e0 : Y.cell? ⟨b, off + i * 3, none⟩ = some (.int .i64 p.1.1) := hc Y bY 0 (by omega)
        have e1 : Y.cell? ⟨b, off + i * 3 + 1, none⟩ = some (.int .i64 p.1.2.1) := hc Y bY 1 (by omega)
        have e2 : Y.cell? ⟨b, off + i * 3 + 2, none⟩ = some (.slice p.2.a p.2.n p.2.c) := hc Y bY 2 (by omega)
        refine ⟨?_, ?_, loadD_at e0 e1 e2, e2⟩
        · have := blk_cell (b3.tq t (by omega)) 11
          rw [this]
          show some (Value.slice c2.ds.a c2.ds.n c2.ds.c) = _
          rw [hdd]
        · have := blk_cell (b1.tq t (by omega)) 11
          rw [this]
          show some (Value.slice c.ds.a c.ds.n c.ds.c) = _
          rw [ha]
      have pm : p.2.n ≤ 140737488351232 := Nat.le_trans (Nat.le_mul_of_pos_right _ (by omega)) rm.1
      have wp : IntKind.i64.wrap ((p.2.n : Int) + 1) = (p.2.n : Int) + 1 := by rw [IntWalk.i64_left, IntWalk.wrap64_in] <;> omega
      have HX : Hid (CL w (Y2.setCell ⟨G, i * 3 + 2, none⟩ (.slice s'.a s'.n s'.c)) c c2 o G c.ds.n (l ++ [(p.1, s')])) := hid_of HN.out.2.2.2
      have HL : Hid ((l ++ [(p.1, s')]).length = i + 1) := hid_of (by rw [List.length_append, HC.out.1]; rfl)
      have hS : (fun X => X.cell? ⟨w.heap.size + 1 + 1, 11, none⟩ = some (.slice (some ⟨G, 0, none⟩) c.ds.n c.ds.n) ∧ X.cell? ⟨w.heap.size, 11, none⟩ = some (.slice (some ⟨b, off, none⟩) c.ds.n c.ds.c) ∧ (loadD ⟨b, off + i * 3, none⟩).run Try.prog X = .ok (.agg (dEnc p)) X ∧ X.cell? ⟨b, off + i * 3 + 2, none⟩ = some (.slice p.2.a p.2.n p.2.c)) wr.drew := SF.out _ (Tq.below (Below.refl wr.heap.size wr).drew)
      have hZ : (fun X => X.cell? ⟨w.heap.size + 1 + 1, 11, none⟩ = some (.slice (some ⟨G, 0, none⟩) c.ds.n c.ds.n) ∧ X.cell? ⟨w.heap.size, 11, none⟩ = some (.slice (some ⟨b, off, none⟩) c.ds.n c.ds.c) ∧ (loadD ⟨b, off + i * 3, none⟩).run Try.prog X = .ok (.agg (dEnc p)) X ∧ X.cell? ⟨b, off + i * 3 + 2, none⟩ = some (.slice p.2.a p.2.n p.2.c)) Z1 := SF.out _ HN.out.1
      have hZd : (fun X => X.cell? ⟨w.heap.size + 1 + 1, 11, none⟩ = some (.slice (some ⟨G, 0, none⟩) c.ds.n c.ds.n) ∧ X.cell? ⟨w.heap.size, 11, none⟩ = some (.slice (some ⟨b, off, none⟩) c.ds.n c.ds.c) ∧ (loadD ⟨b, off + i * 3, none⟩).run Try.prog X = .ok (.agg (dEnc p)) X ∧ X.cell? ⟨b, off + i * 3 + 2, none⟩ = some (.slice p.2.a p.2.n p.2.c)) Z1.drew := SF.out _ (HN.out.1.trans (Tq.below (Below.refl Z1.heap.size Z1).drew))
      have hY1 : (fun X => X.cell? ⟨w.heap.size + 1 + 1, 11, none⟩ = some (.slice (some ⟨G, 0, none⟩) c.ds.n c.ds.n) ∧ X.cell? ⟨w.heap.size, 11, none⟩ = some (.slice (some ⟨b, off, none⟩) c.ds.n c.ds.c) ∧ (loadD ⟨b, off + i * 3, none⟩).run Try.prog X = .ok (.agg (dEnc p)) X ∧ X.cell? ⟨b, off + i * 3 + 2, none⟩ = some (.slice p.2.a p.2.n p.2.c)) Y1 := SF.out _ HN.out.2.1
      have hY2 : (fun X => X.cell? ⟨w.heap.size + 1 + 1, 11, none⟩ = some (.slice (some ⟨G, 0, none⟩) c.ds.n c.ds.n) ∧ X.cell? ⟨w.heap.size, 11, none⟩ = some (.slice (some ⟨b, off, none⟩) c.ds.n c.ds.c) ∧ (loadD ⟨b, off + i * 3, none⟩).run Try.prog X = .ok (.agg (dEnc p)) X ∧ X.cell? ⟨b, off + i * 3 + 2, none⟩ = some (.slice p.2.a p.2.n p.2.c)) Y2 := SF.out _ HN.out.2.2.1
      have hY3 : (fun X => X.cell? ⟨w.heap.size + 1 + 1, 11, none⟩ = some (.slice (some ⟨G, 0, none⟩) c.ds.n c.ds.n) ∧ X.cell? ⟨w.heap.size, 11, none⟩ = some (.slice (some ⟨b, off, none⟩) c.ds.n c.ds.c) ∧ (loadD ⟨b, off + i * 3, none⟩).run Try.prog X = .ok (.agg (dEnc p)) X ∧ X.cell? ⟨b, off + i * 3 + 2, none⟩ = some (.slice p.2.a p.2.n p.2.c)) (Y2.setCell ⟨G, i * 3 + 2, none⟩ (.slice s'.a s'.n s'.c)) := SF.out _ (HN.out.2.2.1.trans (Tq.set rfl))
      rw [ha] at r1
      clear HC HN SF b3 b1 hbe hdd hc hp rt rm xm rxs txs hxs ha
      go_wp2
      refine wp_region_held_drew (S := (fun X => X.cell? ⟨w.heap.size + 1 + 1, 11, none⟩ = some (.slice (some ⟨G, 0, none⟩) c.ds.n c.ds.n) ∧ X.cell? ⟨w.heap.size, 11, none⟩ = some (.slice (some ⟨b, off, none⟩) c.ds.n c.ds.c) ∧ (loadD ⟨b, off + i * 3, none⟩).run Try.prog X = .ok (.agg (dEnc p)) X ∧ X.cell? ⟨b, off + i * 3 + 2, none⟩ = some (.slice p.2.a p.2.n p.2.c))) (by kernel_rfl) hS (fun hHeld => ?_)
      refine wpAnyH_take (i := 0) (v := ?_) rfl (by kernel_rfl) (by kernel_rfl) (by kernel_rfl) (fun _ _ _ h => h) (Or.inl ⟨by kernel_rfl, ?y0p⟩) hHeld ?r0p
      case y0p => (intro wq hSw; go_simp; try rfl)
      simp only [Act.put, List.setIfInBounds_toArray, List.set_cons_zero, List.set_cons_succ]
      refine wpAnyH_take (i := 1) (v := ?_) rfl (by kernel_rfl) (by kernel_rfl) (by kernel_rfl) (fun _ _ _ h => h) (Or.inl ⟨by kernel_rfl, ?y1p⟩) hHeld ?r1p
      case y1p => (intro wq hSw; have q1 := hSw.1; go_simp; try rfl)
      simp only [Act.put, List.setIfInBounds_toArray, List.set_cons_zero, List.set_cons_succ]
      refine wpAnyH_take (i := 2) (v := ?_) rfl (by kernel_rfl) (by kernel_rfl) (by kernel_rfl) (fun _ _ _ h => h) (Or.inl ⟨by kernel_rfl, ?y2p⟩) hHeld ?r2p
      case y2p => (intro wq hSw; go_simp; try rfl)
      simp only [Act.put, List.setIfInBounds_toArray, List.set_cons_zero, List.set_cons_succ]
      refine wpAnyH_take (i := 3) (v := ?_) rfl (by kernel_rfl) (by kernel_rfl) (by kernel_rfl) (fun _ _ _ h => h) (Or.inl ⟨by kernel_rfl, ?y3p⟩) hHeld ?r3p
      case y3p => (intro wq hSw; go_simp; try rfl)
      simp only [Act.put, List.setIfInBounds_toArray, List.set_cons_zero, List.set_cons_succ]
      refine wpAnyH_take (i := 4) (v := ?_) rfl (by kernel_rfl) (by kernel_rfl) (by kernel_rfl) (fun _ _ _ h => h) (Or.inl ⟨by kernel_rfl, ?y4p⟩) hHeld ?r4p
      case y4p => (intro wq hSw; have q1 := hSw.2.1; go_simp; try rfl)
      simp only [Act.put, List.setIfInBounds_toArray, List.set_cons_zero, List.set_cons_succ]
      refine wpAnyH_take (i := 5) (v := ?_) rfl (by kernel_rfl) (by kernel_rfl) (by kernel_rfl) (fun _ _ _ h => h) (Or.inl ⟨by kernel_rfl, ?y5p⟩) hHeld ?r5p
      case y5p => (intro wq hSw; go_simp; try rfl)
      simp only [Act.put, List.setIfInBounds_toArray, List.set_cons_zero, List.set_cons_succ]
      refine wpAnyH_take (i := 6) (v := ?_) rfl (by kernel_rfl) (by kernel_rfl) (by kernel_rfl) (fun _ _ _ h => h) (Or.inl ⟨by kernel_rfl, ?y6p⟩) hHeld ?r6p
      case y6p => (intro wq hSw; go_simp; try rfl)
      simp only [Act.put, List.setIfInBounds_toArray, List.set_cons_zero, List.set_cons_succ]
      refine wpAnyH_take (i := 7) (v := ?_) rfl (by kernel_rfl) (by kernel_rfl) (by kernel_rfl) (fun _ _ _ h => h) (Or.inl ⟨by kernel_rfl, ?y7p⟩) hHeld ?r7p
      case y7p => (intro wq hSw; have q1 := hSw.2.2.1; go_simp; try rfl)
      simp only [Act.put, List.setIfInBounds_toArray, List.set_cons_zero, List.set_cons_succ]
      refine wpAnyH_take (i := 8) (v := ?_) rfl (by kernel_rfl) (by kernel_rfl) (by kernel_rfl) (fun _ _ _ h => h) (Or.inl ⟨by kernel_rfl, ?y8p⟩) hHeld ?r8p
      case y8p => (intro wq hSw; go_simp; try rfl)
      simp only [Act.put, List.setIfInBounds_toArray, List.set_cons_zero, List.set_cons_succ]
      refine wpAnyH_ready (rs := [9]) (by kernel_rfl) (by simp) ?_
      refine AllReadyH.cons rfl (fun K hK => ?_) AllReadyH.nil
      go_simp
      refine hK.out _ _ hZ (fun _ => ?_)
      clear hK K
      refine wpAnyH_done (by kernel_rfl) ?_ _
      clear hHeld
      go_wp2_with fail
      refine wp_region_held_drew (S := (fun X => X.cell? ⟨w.heap.size + 1 + 1, 11, none⟩ = some (.slice (some ⟨G, 0, none⟩) c.ds.n c.ds.n) ∧ X.cell? ⟨w.heap.size, 11, none⟩ = some (.slice (some ⟨b, off, none⟩) c.ds.n c.ds.c) ∧ (loadD ⟨b, off + i * 3, none⟩).run Try.prog X = .ok (.agg (dEnc p)) X ∧ X.cell? ⟨b, off + i * 3 + 2, none⟩ = some (.slice p.2.a p.2.n p.2.c))) (by kernel_rfl) hZd (fun hHeld => ?_)
      refine wpAnyH_take (i := 0) (v := ?_) rfl (by kernel_rfl) (by kernel_rfl) (by kernel_rfl) (fun _ _ _ h => h) (Or.inl ⟨by kernel_rfl, ?y0q⟩) hHeld ?r0q
      case y0q => (intro wq hSw; go_simp; try rfl)
      simp only [Act.put, List.setIfInBounds_toArray, List.set_cons_zero, List.set_cons_succ]
      refine wpAnyH_take (i := 1) (v := ?_) rfl (by kernel_rfl) (by kernel_rfl) (by kernel_rfl) (fun _ _ _ h => h) (Or.inl ⟨by kernel_rfl, ?y1q⟩) hHeld ?r1q
      case y1q => (intro wq hSw; have q1 := hSw.1; go_simp; try rfl)
      simp only [Act.put, List.setIfInBounds_toArray, List.set_cons_zero, List.set_cons_succ]
      refine wpAnyH_take (i := 2) (v := ?_) rfl (by kernel_rfl) (by kernel_rfl) (by kernel_rfl) (fun _ _ _ h => h) (Or.inl ⟨by kernel_rfl, ?y2q⟩) hHeld ?r2q
      case y2q => (intro wq hSw; go_simp; try rfl)
      simp only [Act.put, List.setIfInBounds_toArray, List.set_cons_zero, List.set_cons_succ]
      refine wpAnyH_take (i := 3) (v := ?_) rfl (by kernel_rfl) (by kernel_rfl) (by kernel_rfl) (fun _ _ _ h => h) (Or.inl ⟨by kernel_rfl, ?y3q⟩) hHeld ?r3q
      case y3q => (intro wq hSw; go_simp; try rfl)
      simp only [Act.put, List.setIfInBounds_toArray, List.set_cons_zero, List.set_cons_succ]
      refine wpAnyH_take (i := 4) (v := ?_) rfl (by kernel_rfl) (by kernel_rfl) (by kernel_rfl) (fun _ _ _ h => h) (Or.inl ⟨by kernel_rfl, ?y4q⟩) hHeld ?r4q
      case y4q => (intro wq hSw; have q1 := hSw.2.1; go_simp; try rfl)
      simp only [Act.put, List.setIfInBounds_toArray, List.set_cons_zero, List.set_cons_succ]
      refine wpAnyH_take (i := 5) (v := ?_) rfl (by kernel_rfl) (by kernel_rfl) (by kernel_rfl) (fun _ _ _ h => h) (Or.inl ⟨by kernel_rfl, ?y5q⟩) hHeld ?r5q
      case y5q => (intro wq hSw; go_simp; try rfl)
      simp only [Act.put, List.setIfInBounds_toArray, List.set_cons_zero, List.set_cons_succ]
      refine wpAnyH_take (i := 6) (v := ?_) rfl (by kernel_rfl) (by kernel_rfl) (by kernel_rfl) (fun _ _ _ h => h) (Or.inl ⟨by kernel_rfl, ?y6q⟩) hHeld ?r6q
      case y6q => (intro wq hSw; go_simp; try rfl)
      simp only [Act.put, List.setIfInBounds_toArray, List.set_cons_zero, List.set_cons_succ]
      refine wpAnyH_take (i := 7) (v := ?_) rfl (by kernel_rfl) (by kernel_rfl) (by kernel_rfl) (fun _ _ _ h => h) (Or.inl ⟨by kernel_rfl, ?y7q⟩) hHeld ?r7q
      case y7q => (intro wq hSw; go_simp; try rfl)
      simp only [Act.put, List.setIfInBounds_toArray, List.set_cons_zero, List.set_cons_succ]
      refine wpAnyH_take (i := 8) (v := ?_) rfl (by kernel_rfl) (by kernel_rfl) (by kernel_rfl) (fun _ _ _ h => h) (Or.inl ⟨by kernel_rfl, ?y8q⟩) hHeld ?r8q
      case y8q => (intro wq hSw; have q1 := hSw.2.2.2; go_simp; try rfl)
      simp only [Act.put, List.setIfInBounds_toArray, List.set_cons_zero, List.set_cons_succ]
      refine wpAnyH_take (i := 9) (v := ?_) rfl (by kernel_rfl) (by kernel_rfl) (by kernel_rfl) (fun _ _ _ h => h) (Or.inl ⟨by kernel_rfl, ?y9q⟩) hHeld ?r9q
      case y9q => (intro wq hSw; go_simp; try rfl)
      simp only [Act.put, List.setIfInBounds_toArray, List.set_cons_zero, List.set_cons_succ]
      refine wpAnyH_take (i := 10) (v := ?_) rfl (by kernel_rfl) (by kernel_rfl) (by kernel_rfl) (fun _ _ _ h => h) (Or.inl ⟨by kernel_rfl, ?y10q⟩) hHeld ?r10q
      case y10q => (intro wq hSw; go_simp; try rfl)
      simp only [Act.put, List.setIfInBounds_toArray, List.set_cons_zero, List.set_cons_succ]
      refine wpAnyH_take (i := 12) (v := ?_) rfl (by kernel_rfl) (by kernel_rfl) (by kernel_rfl) (fun _ _ _ h => h) (Or.inl ⟨by kernel_rfl, ?y12q⟩) hHeld ?r12q
      case y12q => (intro wq hSw; go_simp; try rfl)
      simp only [Act.put, List.setIfInBounds_toArray, List.set_cons_zero, List.set_cons_succ]
      refine wpAnyH_take (i := 13) (v := ?_) rfl (by kernel_rfl) (by kernel_rfl) (by kernel_rfl) (fun _ _ _ h => h) (Or.inl ⟨by kernel_rfl, ?y13q⟩) hHeld ?r13q
      case y13q => (intro wq hSw; have q1 := hSw.2.1; go_simp; try rfl)
      simp only [Act.put, List.setIfInBounds_toArray, List.set_cons_zero, List.set_cons_succ]
      refine wpAnyH_take (i := 14) (v := ?_) rfl (by kernel_rfl) (by kernel_rfl) (by kernel_rfl) (fun _ _ _ h => h) (Or.inl ⟨by kernel_rfl, ?y14q⟩) hHeld ?r14q
      case y14q => (intro wq hSw; go_simp; try rfl)
      simp only [Act.put, List.setIfInBounds_toArray, List.set_cons_zero, List.set_cons_succ]
      refine wpAnyH_take (i := 15) (v := ?_) rfl (by kernel_rfl) (by kernel_rfl) (by kernel_rfl) (fun _ _ _ h => h) (Or.inl ⟨by kernel_rfl, ?y15q⟩) hHeld ?r15q
      case y15q => (intro wq hSw; go_simp; try rfl)
      simp only [Act.put, List.setIfInBounds_toArray, List.set_cons_zero, List.set_cons_succ]
      refine wpAnyH_take (i := 16) (v := ?_) rfl (by kernel_rfl) (by kernel_rfl) (by kernel_rfl) (fun _ _ _ h => h) (Or.inl ⟨by kernel_rfl, ?y16q⟩) hHeld ?r16q
      case y16q => (intro wq hSw; go_simp; try rfl)
      simp only [Act.put, List.setIfInBounds_toArray, List.set_cons_zero, List.set_cons_succ]
      refine wpAnyH_take (i := 17) (v := ?_) rfl (by kernel_rfl) (by kernel_rfl) (by kernel_rfl) (fun _ _ _ h => h) (Or.inl ⟨by kernel_rfl, ?y17q⟩) hHeld ?r17q
      case y17q => (intro wq hSw; have q1 := hSw.2.2.2; go_simp; try rfl)
      simp only [Act.put, List.setIfInBounds_toArray, List.set_cons_zero, List.set_cons_succ]
      refine wpAnyH_ready (rs := [11]) (by kernel_rfl) (by simp) ?_
      refine AllReadyH.cons rfl (fun K hK => ?_) AllReadyH.nil
      go_simp
      refine hK.out _ _ hY1 (fun _ => ?_)
      clear hK K
      refine wpAnyH_ready (rs := [18]) (by kernel_rfl) (by simp) ?_
      refine AllReadyH.cons rfl (fun K hK => ?_) AllReadyH.nil
      go_simp
      refine hK.out _ _ hY2 (fun _ => ?_)
      clear hK K
      refine wpAnyH_take (i := 19) (v := ?_) rfl (by kernel_rfl) (by kernel_rfl) (by kernel_rfl) (fun _ _ _ h => h) (Or.inl ⟨by kernel_rfl, ?y19q⟩) hY2 ?r19q
      case y19q => (intro wq hSw; go_simp; try rfl)
      simp only [Act.put, List.setIfInBounds_toArray, List.set_cons_zero, List.set_cons_succ]
      refine wpAnyH_take (i := 20) (v := ?_) rfl (by kernel_rfl) (by kernel_rfl) (by kernel_rfl) (fun _ _ _ h => h) (Or.inl ⟨by kernel_rfl, ?y20q⟩) hY2 ?r20q
      case y20q => (intro wq hSw; go_simp; try rfl)
      simp only [Act.put, List.setIfInBounds_toArray, List.set_cons_zero, List.set_cons_succ]
      refine wpAnyH_ready (rs := [21]) (by kernel_rfl) (by simp) ?_
      refine AllReadyH.cons rfl (fun K hK => ?_) AllReadyH.nil
      go_simp
      refine hK.out _ _ hY3 (fun _ => ?_)
      clear hK K
      refine wpAnyH_done (by kernel_rfl) ?_ _
      clear hHeld hS hZ hZd hY1 hY2 hY3
      go_wp2_with fail
      go_roundg g'
      case measure => omega
      case rel => exact ⟨i + 1, _, by simp, by omega, HL.out, HX.out⟩
    · have d1 : decide ((i : Int) < (c.ds.n : Int)) = false := decide_eq_false (by omega)
      have lo := loadO_run HC.out.2.b3
      obtain ⟨Zf, sf1, sf2, sf3⟩ := storeO_run HC.out.2.b2 c2
      have HF : Hid (ObR Zf c2 o ∧ Below w.heap.size w Zf) := hid_of ⟨HC.out.2.done (by rw [HC.out.1]; omega) HND.out (by omega) Zf sf3, Below.of_tq HC.out.2.be sf3 fun k hk => by omega⟩
      have HO := hid_of sf2
      clear HC sf2 sf3
      go_wp2
      refine ret_cell1 (p := 2) rfl rfl (loadO_run HO.out) rfl ⟨c2, rfl, HF.out.1, HF.out.2⟩
end Go.Proofs.Ytmfdomabegaidaa
