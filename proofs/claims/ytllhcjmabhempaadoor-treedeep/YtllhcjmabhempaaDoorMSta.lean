/-
  Layer 9: counted statements.
  Layer 9: assignments and calls as statements.
  Layer 9: statements.
-/
import Derived.Test.YtllhcjmabhempaaDoorMBif
import Derived.Deep.DeepCutAuto
import Derived.Test.YtllhcjmabhempaaDoorEdg
namespace Go.Proofs.YtllhcjmabhempaaDoor
set_option linter.unusedVariables false
set_option linter.unusedSimpArgs false
open Go.ChangeShapes Go.WideShapes Go.ChangeAt Go.RowKit


attribute [local go_sem] fieldTk0 fieldTk1 fieldTk3 hmf
attribute [local go_sem ↓] bslNd_seal
attribute [local go_sem] bslNd1_run bslNd2_run
attribute [local go_sem ↓] appN_seal
def cnt4 (f o p : Nat) (z : Bs) (l : List Nd) (s : List Tok) : Rs Nd := (mustR [68, 79] s).bind fun _ u => (blkR f (o + 1) u).bind fun y v => (mustR [69, 78, 68] v).bind fun _ v => .ok (.mk 22 z 0 false (l ++ [y]) p) v
def cnt3 (f o p : Nat) (z : Bs) (a c : Nd) (s : List Tok) : Rs Nd := (if wd s = [66, 89] then (exprR (o + 1) s.tail).bind fun d u => .ok (lst [a, c, d]) u else .ok (lst [a, c]) s).bind fun l s => cnt4 f o p z l.kids s
def cnt2 (f o p : Nat) (z : Bs) (a : Nd) (s : List Tok) : Rs Nd := (mustR [84, 79] s).bind fun _ s => (exprR (o + 1) s).bind fun c s => cnt3 f o p z a c s
def cntR (f o : Nat) (t : List Tok) : Rs Nd := (beginR o t).bind fun x r => (nameR r).bind fun z s => (mustR [58, 61] s).bind fun _ s => (exprR (o + 1) s).bind fun a s => cnt2 f o x.p z.t a s
set_option maxHeartbeats 8000000 in
set_option maxRecDepth 20000 in
theorem count_step (f : Nat) (hB : PsB f) (w : World) (b g cap : Nat) (L : List Tok) (i o : Nat) (h : RdAt w b g cap L i o) (hk0 : (hd (L.drop i)).k ≠ 0) (hf : (L.length - i) * 4 ≤ f) : Calls Tryd.prog 72 #[.pointer (some ⟨b, 0, none⟩)] w (PostN w b g cap L i o (cntR f o (L.drop i))) := by
  have bl := h.bl
  have gl := h.gl
  have hil := h.il
  have hol := h.ol
  have H : Hid (RdAt w b g cap L i o) := h
  unfold cntR beginR
  by_cases ho : o = 24
  · subst ho
    rw [if_pos rfl, Rs.bind_bad]
    have BN : Hid (∀ X, RdAt X b g cap L i 24 → Calls Tryd.prog 76 #[.pointer (some ⟨b, 0, none⟩)] X _) := fun X hX => begin_no X b g cap L i hX
    clear h hB
    generalize (hd (L.drop i)).p = p at BN ⊢
    go_enter Tryd.func72, Tryd.ntmps72
    go_wp2_with (go_at_call 76; refine (BN.out _ (H.out.alloc _)).mono ?_; rintro e w2 ⟨he, g2⟩; unfold gaveUp at he; subst he)
    exact ⟨rfl, rfl, gb_trans ((St.refl H.out).alloc _).gb g2⟩
  · rw [if_neg ho, Rs.bind_ok, List.tail_drop]
    have BY : Hid (∀ X, RdAt X b g cap L i o → Calls Tryd.prog 76 #[.pointer (some ⟨b, 0, none⟩)] X _) := fun X hX => begin_yes X b g cap L i o hX (by omega) hk0
    have BL : Hid (∀ X j, i < j → RdAt X b g cap L j (o + 1) → Calls Tryd.prog 41 #[.pointer (some ⟨b, 0, none⟩)] X (PostB X b g cap L j (o + 1) (blkR f (o + 1) (L.drop j)))) := fun X j hj hX => hB X b g cap L j (o + 1) hX (by omega)
    clear h hB hf hk0 hil
    generalize hd (L.drop i) = tk at BY ⊢
    have e0 : tk.tk.p = (tk.p : Int) := rfl
    generalize hR : ((nameR (L.drop (i + 1))).bind fun z s => (mustR [58, 61] s).bind fun _ s => (exprR (o + 1) s).bind fun a s => cnt2 f o tk.p z.t a s) = R
    have HR : Hid (((nameR (L.drop (i + 1))).bind fun z s => (mustR [58, 61] s).bind fun _ s => (exprR (o + 1) s).bind fun a s => cnt2 f o tk.p z.t a s) = R) := hR
    clear hR
    go_enter Tryd.func72, Tryd.ntmps72
    go_upto_region 4 with (first
      | (go_at_call 76; refine (BY.out _ (H.out.alloc _)).mono ?_; rintro e w1 ⟨rfl, s1⟩; have hs1 := s1.size; simp at hs1; have B1 : Hid (St w w1 b g cap L (i + 1) (o + 1)) := ((St.refl H.out).alloc _).next s1; have m1 : roomAt w1 w.heap.size 6 = true := (s1.room (by simp) (by omega) 6).trans (roomNd_new _ _ _ _ (by simp)))
      | (go_at_call 59; refine (node_any _ _ _ _ _ _).mono ?_; rintro e w2 ⟨rfl, hb2⟩; have hs2 := hb2.size; have A2 : Hid (FN w (w2.alloc (.cells (⟨22, ⟨#[]⟩, 0, false, none, 0, 0, (tk.p : Int)⟩ : Nc).cells 31)) b g cap L (i + 1) (o + 1) w.heap.size w2.heap.size (w2.heap.size + 1) 22 [] false tk.p none 0 0 []) := FN.new (B1.out.below hb2) ((roomAt_below hb2 _ _ (by omega)).trans m1) (Nat.le_refl _) (by omega) rfl)
      | (go_at_call 53; refine (name_any _ b g cap L (i + 1) (o + 1) A2.out.st.rd).mono ?_; intro e w3 hP; rcases postT_or hP with ⟨x3, u3, hn3, rfl, ht3, s3⟩ | ⟨p3, er3, hn3, he, g3⟩ <;> first
          | (have hs3 := s3.size; have e3 : x3.tk.t = bs x3.t := rfl; have A3 : Hid (FN w w3 b g cap L (i + 1 + 1) (o + 1) w.heap.size w2.heap.size (w2.heap.size + 1) 22 [] false tk.p none 0 0 []) := A2.out.step bl s3 (by omega); have c3 := rowAt_cell A3.out.row; have f3 := A3.out.fz 1 (by omega); clear hP)
          | (unfold gaveUp at he; subst he))
      | (go_at_call 30; refine (must_any _ b g cap L (i + 1 + 1) (o + 1) (A3.out.text bl gl x3.t).st.rd [58, 61] (by decide)).mono ?_; intro e w4 hP; rcases postT_or hP with ⟨x4, u4, hm4, rfl, ht4, s4⟩ | ⟨p4, er4, hm4, he, g4⟩ <;> first
        | (have hs4 := s4.size; have A4 : Hid (FN w w4 b g cap L (i + 1 + 1 + 1) (o + 1) w.heap.size w2.heap.size (w2.heap.size + 1) 22 x3.t false tk.p none 0 0 []) := (A3.out.text bl gl x3.t).step bl s4 (by omega); have HR4 : Hid (((exprR (o + 1) (L.drop (i + 1 + 1 + 1))).bind fun a s => cnt2 f o tk.p x3.t a s) = R) := (by show _ = _; rw [← HR.out, hn3, Rs.bind_ok, ht3, hm4, Rs.bind_ok, ht4]); clear hP)
        | (unfold gaveUp at he; subst he)))
    rotate_left
    · rw [← HR.out, hn3, Rs.bind_ok, ht3, hm4, Rs.bind_bad]; exact ⟨rfl, rfl, gb_trans (A3.out.text bl gl x3.t).st.gb g4⟩
    · rw [← HR.out, hn3, Rs.bind_bad]; exact ⟨rfl, rfl, gb_trans A2.out.st.gb g3⟩
    go_cut [] (fun Y => ∃ n5 i5 a5 N5 m5, Hid (FN w Y b g cap L i5 (o + 1) w.heap.size w2.heap.size (w2.heap.size + 1) 22 x3.t false tk.p a5 N5 m5 [n5] ∧ i < i5 ∧ cnt2 f o tk.p x3.t n5 (L.drop i5) = R))
    case first =>
      have D := (A4.out).drew bl
      have rD := D.row
      have lD := D.lt
      refine wp_region_held_drew (S := (fun _ => True)) (by kernel_rfl) trivial (fun hHeld => ?_)
      refine wpAnyH_take (i := 0) (v := ?_) rfl (by kernel_rfl) (by kernel_rfl) (by kernel_rfl) (fun _ _ _ h => h) (Or.inl ⟨by rfl, ?y0a⟩) hHeld ?r0a
      case y0a => (intro w2 hSw; (try dsimp only at hSw); go_simp; try rfl)
      simp only [Act.put, List.setIfInBounds_toArray, List.set_cons_zero, List.set_cons_succ]
      refine wpAnyH_take (i := 2) (v := ?_) rfl (by kernel_rfl) (by kernel_rfl) (by kernel_rfl) (fun _ _ _ h => h) (Or.inl ⟨by rfl, ?y2a⟩) hHeld ?r2a
      case y2a => (intro w2 hSw; (try dsimp only at hSw); go_simp; try rfl)
      simp only [Act.put, List.setIfInBounds_toArray, List.set_cons_zero, List.set_cons_succ]
      refine wpAnyH_ready (rs := [1, 3]) (by kernel_rfl) (by simp) ?_
      refine .cons rfl (fun K hK => ?_) (.cons rfl (fun K hK => ?_) .nil)
      · have cL := rowAt_cell rD
        go_simp
        refine hK.out _ _ trivial (fun _ => ?_)
        clear hK K
        refine wpAnyH_ready (rs := [3]) (by kernel_rfl) (by simp) ?_
        refine .cons rfl (fun K hK => ?_) .nil
        go_simp
        go_wp2_with (go_at_call 16; refine (expression_any _ b g cap L (i + 1 + 1 + 1) (o + 1) D.st.rd).mono ?_; intro e w5 hP; rcases postN_or hP with ⟨n5, t5, c5, i5, hy5, rfl, ht5, hi5, s5, nd5⟩ | ⟨p5, er5, hy5, he, g5⟩ <;> first | (have hs5 := s5.size; clear hP) | (unfold gaveUp at he; subst he))
        rotate_left
        · rw [← HR4.out, hy5, Rs.bind_bad]; exact ⟨rfl, rfl, gb_trans D.st.gb g5⟩
        have r5 := (D.step bl s5 (by omega)).row
        refine hK.out _ _ trivial (fun _ => ?_)
        clear hK K
        refine wpAnyH_ready (rs := [4]) (by kernel_rfl) (by simp) ?_
        refine .cons rfl (fun K hK => ?_) .nil
        go_simp
        have r6 : rowAt (w5.alloc (.cells c5.cells 31)) _ = _ := (rowAt_old _ _ _ (Nat.ne_of_lt (Nat.lt_of_lt_of_le lD.1 hs5))).trans r5
        refine hK.out _ _ trivial (fun _ => ?_)
        clear hK K
        refine wpAnyH_ready (rs := [5]) (by kernel_rfl) (by simp) ?_
        refine .cons rfl (fun K hK => ?_) .nil
        obtain ⟨g6, N6, cp6, Y6, hrun6, rY6, fY6, F6⟩ := D.push (W := w5.alloc (.cells c5.cells 31)) bl gl s5 nd5 (by simp; omega) rfl
        clear s5 nd5
        go_simp
        refine hK.out _ _ trivial (fun _ => ?_)
        clear hK K
        refine wpAnyH_ready (rs := [6]) (by kernel_rfl) (by simp) ?_
        refine .cons rfl (fun K hK => ?_) .nil
        go_simp
        refine hK.out _ _ trivial (fun _ => ?_)
        clear hK K
        refine wpAnyH_ready (rs := [7]) (by kernel_rfl) (by simp) ?_
        refine .cons rfl (fun K hK => ?_) .nil
        have cY := rowAt_cell rY6
        go_simp
        refine hK.out _ _ trivial (fun _ => ?_)
        clear hK K
        refine wpAnyH_done (by kernel_rfl) ?_ _
        go_wp2_with fail
        go_meet
        exact ⟨n5, i5, _, _, _, F6.out, by omega, by rw [← HR4.out, hy5, Rs.bind_ok, ht5]⟩
      · go_simp
        go_wp2_with (go_at_call 16; refine (expression_any _ b g cap L (i + 1 + 1 + 1) (o + 1) D.st.rd).mono ?_; intro e w5 hP; rcases postN_or hP with ⟨n5, t5, c5, i5, hy5, rfl, ht5, hi5, s5, nd5⟩ | ⟨p5, er5, hy5, he, g5⟩ <;> first | (have hs5 := s5.size; clear hP) | (unfold gaveUp at he; subst he))
        rotate_left
        · rw [← HR4.out, hy5, Rs.bind_bad]; exact ⟨rfl, rfl, gb_trans D.st.gb g5⟩
        have r5 := (D.step bl s5 (by omega)).row
        refine hK.out _ _ trivial (fun _ => ?_)
        clear hK K
        refine wpAnyH_ready (rs := [1, 4]) (by kernel_rfl) (by simp) ?_
        refine .cons rfl (fun K hK => ?_) (.cons rfl (fun K hK => ?_) .nil)
        · have cL := rowAt_cell r5
          go_simp
          refine hK.out _ _ trivial (fun _ => ?_)
          clear hK K
          refine wpAnyH_ready (rs := [4]) (by kernel_rfl) (by simp) ?_
          refine .cons rfl (fun K hK => ?_) .nil
          go_simp
          have r6 : rowAt (w5.alloc (.cells c5.cells 31)) _ = _ := (rowAt_old _ _ _ (Nat.ne_of_lt (Nat.lt_of_lt_of_le lD.1 hs5))).trans r5
          refine hK.out _ _ trivial (fun _ => ?_)
          clear hK K
          refine wpAnyH_ready (rs := [5]) (by kernel_rfl) (by simp) ?_
          refine .cons rfl (fun K hK => ?_) .nil
          obtain ⟨g6, N6, cp6, Y6, hrun6, rY6, fY6, F6⟩ := D.push (W := w5.alloc (.cells c5.cells 31)) bl gl s5 nd5 (by simp; omega) rfl
          clear s5 nd5
          go_simp
          refine hK.out _ _ trivial (fun _ => ?_)
          clear hK K
          refine wpAnyH_ready (rs := [6]) (by kernel_rfl) (by simp) ?_
          refine .cons rfl (fun K hK => ?_) .nil
          go_simp
          refine hK.out _ _ trivial (fun _ => ?_)
          clear hK K
          refine wpAnyH_ready (rs := [7]) (by kernel_rfl) (by simp) ?_
          refine .cons rfl (fun K hK => ?_) .nil
          have cY := rowAt_cell rY6
          go_simp
          refine hK.out _ _ trivial (fun _ => ?_)
          clear hK K
          refine wpAnyH_done (by kernel_rfl) ?_ _
          go_wp2_with fail
          go_meet
          exact ⟨n5, i5, _, _, _, F6.out, by omega, by rw [← HR4.out, hy5, Rs.bind_ok, ht5]⟩
        · go_simp
          have r6 : rowAt (w5.alloc (.cells c5.cells 31)) _ = _ := (rowAt_old _ _ _ (Nat.ne_of_lt (Nat.lt_of_lt_of_le lD.1 hs5))).trans r5
          refine hK.out _ _ trivial (fun _ => ?_)
          clear hK K
          refine wpAnyH_ready (rs := [1]) (by kernel_rfl) (by simp) ?_
          refine .cons rfl (fun K hK => ?_) .nil
          have cL := rowAt_cell r6
          go_simp
          refine hK.out _ _ trivial (fun _ => ?_)
          clear hK K
          refine wpAnyH_ready (rs := [5]) (by kernel_rfl) (by simp) ?_
          refine .cons rfl (fun K hK => ?_) .nil
          obtain ⟨g6, N6, cp6, Y6, hrun6, rY6, fY6, F6⟩ := D.push (W := w5.alloc (.cells c5.cells 31)) bl gl s5 nd5 (by simp; omega) rfl
          clear s5 nd5
          go_simp
          refine hK.out _ _ trivial (fun _ => ?_)
          clear hK K
          refine wpAnyH_ready (rs := [6]) (by kernel_rfl) (by simp) ?_
          refine .cons rfl (fun K hK => ?_) .nil
          go_simp
          refine hK.out _ _ trivial (fun _ => ?_)
          clear hK K
          refine wpAnyH_ready (rs := [7]) (by kernel_rfl) (by simp) ?_
          refine .cons rfl (fun K hK => ?_) .nil
          have cY := rowAt_cell rY6
          go_simp
          refine hK.out _ _ trivial (fun _ => ?_)
          clear hK K
          refine wpAnyH_done (by kernel_rfl) ?_ _
          go_wp2_with fail
          go_meet
          exact ⟨n5, i5, _, _, _, F6.out, by omega, by rw [← HR4.out, hy5, Rs.bind_ok, ht5]⟩
    case rest =>
    obtain ⟨n5, i5, a5, N5, m5, A5⟩ := hcut
    clear A2 A3 A4 HR HR4 c3 f3 hn3 ht3 hm4 ht4 s3 s4
    go_upto_region 6 with (first
      | (go_at_call 30; refine (must_any _ b g cap L i5 (o + 1) A5.out.1.st.rd [84, 79] (by decide)).mono ?_; intro e w6 hP; rcases postT_or hP with ⟨x6, u6, hm6, rfl, ht6, s6⟩ | ⟨p6, er6, hm6, he, g6⟩ <;> first
        | (have hs6 := s6.size; have A6 : Hid (FN w w6 b g cap L (i5 + 1) (o + 1) w.heap.size w2.heap.size (w2.heap.size + 1) 22 x3.t false tk.p a5 N5 m5 [n5] ∧ ((exprR (o + 1) (L.drop (i5 + 1))).bind fun c s => cnt3 f o tk.p x3.t n5 c s) = R) := ⟨A5.out.1.step bl s6 (by omega), by rw [← A5.out.2.2]; unfold cnt2; rw [hm6, Rs.bind_ok, ht6]⟩; clear hP)
        | (unfold gaveUp at he; subst he)))
    rotate_left
    · rw [← A5.out.2.2]; unfold cnt2; rw [hm6, Rs.bind_bad]; exact ⟨rfl, rfl, gb_trans A5.out.1.st.gb g6⟩
    have hi5 := A5.out.2.1
    go_cut [] (fun Y => ∃ n7 i7 a7 N7 m7, Hid (FN w Y b g cap L i7 (o + 1) w.heap.size w2.heap.size (w2.heap.size + 1) 22 x3.t false tk.p a7 N7 m7 [n5, n7] ∧ i < i7 ∧ cnt3 f o tk.p x3.t n5 n7 (L.drop i7) = R))
    case first =>
      have D := (A6.out.1).drew bl
      have rD := D.row
      have lD := D.lt
      refine wp_region_held_drew (S := (fun _ => True)) (by kernel_rfl) trivial (fun hHeld => ?_)
      refine wpAnyH_take (i := 0) (v := ?_) rfl (by kernel_rfl) (by kernel_rfl) (by kernel_rfl) (fun _ _ _ h => h) (Or.inl ⟨by rfl, ?y0b⟩) hHeld ?r0b
      case y0b => (intro w2 hSw; (try dsimp only at hSw); go_simp; try rfl)
      simp only [Act.put, List.setIfInBounds_toArray, List.set_cons_zero, List.set_cons_succ]
      refine wpAnyH_take (i := 2) (v := ?_) rfl (by kernel_rfl) (by kernel_rfl) (by kernel_rfl) (fun _ _ _ h => h) (Or.inl ⟨by rfl, ?y2b⟩) hHeld ?r2b
      case y2b => (intro w2 hSw; (try dsimp only at hSw); go_simp; try rfl)
      simp only [Act.put, List.setIfInBounds_toArray, List.set_cons_zero, List.set_cons_succ]
      refine wpAnyH_ready (rs := [1, 3]) (by kernel_rfl) (by simp) ?_
      refine .cons rfl (fun K hK => ?_) (.cons rfl (fun K hK => ?_) .nil)
      · have cL := rowAt_cell rD
        go_simp
        refine hK.out _ _ trivial (fun _ => ?_)
        clear hK K
        refine wpAnyH_ready (rs := [3]) (by kernel_rfl) (by simp) ?_
        refine .cons rfl (fun K hK => ?_) .nil
        go_simp
        go_wp2_with (go_at_call 16; refine (expression_any _ b g cap L (i5 + 1) (o + 1) D.st.rd).mono ?_; intro e w5 hP; rcases postN_or hP with ⟨n5x, t5, c5, i5x, hy5, rfl, ht5, hi5x, s5, nd5⟩ | ⟨p5, er5, hy5, he, g5⟩ <;> first | (have hs5 := s5.size; clear hP) | (unfold gaveUp at he; subst he))
        rotate_left
        · rw [← A6.out.2, hy5, Rs.bind_bad]; exact ⟨rfl, rfl, gb_trans D.st.gb g5⟩
        have r5 := (D.step bl s5 (by omega)).row
        refine hK.out _ _ trivial (fun _ => ?_)
        clear hK K
        refine wpAnyH_ready (rs := [4]) (by kernel_rfl) (by simp) ?_
        refine .cons rfl (fun K hK => ?_) .nil
        go_simp
        have r6 : rowAt (w5.alloc (.cells c5.cells 31)) _ = _ := (rowAt_old _ _ _ (Nat.ne_of_lt (Nat.lt_of_lt_of_le lD.1 hs5))).trans r5
        refine hK.out _ _ trivial (fun _ => ?_)
        clear hK K
        refine wpAnyH_ready (rs := [5]) (by kernel_rfl) (by simp) ?_
        refine .cons rfl (fun K hK => ?_) .nil
        obtain ⟨g6, N6, cp6, Y6, hrun6, rY6, fY6, F6⟩ := D.push (W := w5.alloc (.cells c5.cells 31)) bl gl s5 nd5 (by simp; omega) rfl
        clear s5 nd5
        go_simp
        refine hK.out _ _ trivial (fun _ => ?_)
        clear hK K
        refine wpAnyH_ready (rs := [6]) (by kernel_rfl) (by simp) ?_
        refine .cons rfl (fun K hK => ?_) .nil
        go_simp
        refine hK.out _ _ trivial (fun _ => ?_)
        clear hK K
        refine wpAnyH_ready (rs := [7]) (by kernel_rfl) (by simp) ?_
        refine .cons rfl (fun K hK => ?_) .nil
        have cY := rowAt_cell rY6
        go_simp
        refine hK.out _ _ trivial (fun _ => ?_)
        clear hK K
        refine wpAnyH_done (by kernel_rfl) ?_ _
        go_wp2_with fail
        go_meet
        exact ⟨n5x, i5x, _, _, _, F6.out, by omega, by rw [← A6.out.2, hy5, Rs.bind_ok, ht5]⟩
      · go_simp
        go_wp2_with (go_at_call 16; refine (expression_any _ b g cap L (i5 + 1) (o + 1) D.st.rd).mono ?_; intro e w5 hP; rcases postN_or hP with ⟨n5x, t5, c5, i5x, hy5, rfl, ht5, hi5x, s5, nd5⟩ | ⟨p5, er5, hy5, he, g5⟩ <;> first | (have hs5 := s5.size; clear hP) | (unfold gaveUp at he; subst he))
        rotate_left
        · rw [← A6.out.2, hy5, Rs.bind_bad]; exact ⟨rfl, rfl, gb_trans D.st.gb g5⟩
        have r5 := (D.step bl s5 (by omega)).row
        refine hK.out _ _ trivial (fun _ => ?_)
        clear hK K
        refine wpAnyH_ready (rs := [1, 4]) (by kernel_rfl) (by simp) ?_
        refine .cons rfl (fun K hK => ?_) (.cons rfl (fun K hK => ?_) .nil)
        · have cL := rowAt_cell r5
          go_simp
          refine hK.out _ _ trivial (fun _ => ?_)
          clear hK K
          refine wpAnyH_ready (rs := [4]) (by kernel_rfl) (by simp) ?_
          refine .cons rfl (fun K hK => ?_) .nil
          go_simp
          have r6 : rowAt (w5.alloc (.cells c5.cells 31)) _ = _ := (rowAt_old _ _ _ (Nat.ne_of_lt (Nat.lt_of_lt_of_le lD.1 hs5))).trans r5
          refine hK.out _ _ trivial (fun _ => ?_)
          clear hK K
          refine wpAnyH_ready (rs := [5]) (by kernel_rfl) (by simp) ?_
          refine .cons rfl (fun K hK => ?_) .nil
          obtain ⟨g6, N6, cp6, Y6, hrun6, rY6, fY6, F6⟩ := D.push (W := w5.alloc (.cells c5.cells 31)) bl gl s5 nd5 (by simp; omega) rfl
          clear s5 nd5
          go_simp
          refine hK.out _ _ trivial (fun _ => ?_)
          clear hK K
          refine wpAnyH_ready (rs := [6]) (by kernel_rfl) (by simp) ?_
          refine .cons rfl (fun K hK => ?_) .nil
          go_simp
          refine hK.out _ _ trivial (fun _ => ?_)
          clear hK K
          refine wpAnyH_ready (rs := [7]) (by kernel_rfl) (by simp) ?_
          refine .cons rfl (fun K hK => ?_) .nil
          have cY := rowAt_cell rY6
          go_simp
          refine hK.out _ _ trivial (fun _ => ?_)
          clear hK K
          refine wpAnyH_done (by kernel_rfl) ?_ _
          go_wp2_with fail
          go_meet
          exact ⟨n5x, i5x, _, _, _, F6.out, by omega, by rw [← A6.out.2, hy5, Rs.bind_ok, ht5]⟩
        · go_simp
          have r6 : rowAt (w5.alloc (.cells c5.cells 31)) _ = _ := (rowAt_old _ _ _ (Nat.ne_of_lt (Nat.lt_of_lt_of_le lD.1 hs5))).trans r5
          refine hK.out _ _ trivial (fun _ => ?_)
          clear hK K
          refine wpAnyH_ready (rs := [1]) (by kernel_rfl) (by simp) ?_
          refine .cons rfl (fun K hK => ?_) .nil
          have cL := rowAt_cell r6
          go_simp
          refine hK.out _ _ trivial (fun _ => ?_)
          clear hK K
          refine wpAnyH_ready (rs := [5]) (by kernel_rfl) (by simp) ?_
          refine .cons rfl (fun K hK => ?_) .nil
          obtain ⟨g6, N6, cp6, Y6, hrun6, rY6, fY6, F6⟩ := D.push (W := w5.alloc (.cells c5.cells 31)) bl gl s5 nd5 (by simp; omega) rfl
          clear s5 nd5
          go_simp
          refine hK.out _ _ trivial (fun _ => ?_)
          clear hK K
          refine wpAnyH_ready (rs := [6]) (by kernel_rfl) (by simp) ?_
          refine .cons rfl (fun K hK => ?_) .nil
          go_simp
          refine hK.out _ _ trivial (fun _ => ?_)
          clear hK K
          refine wpAnyH_ready (rs := [7]) (by kernel_rfl) (by simp) ?_
          refine .cons rfl (fun K hK => ?_) .nil
          have cY := rowAt_cell rY6
          go_simp
          refine hK.out _ _ trivial (fun _ => ?_)
          clear hK K
          refine wpAnyH_done (by kernel_rfl) ?_ _
          go_wp2_with fail
          go_meet
          exact ⟨n5x, i5x, _, _, _, F6.out, by omega, by rw [← A6.out.2, hy5, Rs.bind_ok, ht5]⟩
    case rest =>
    obtain ⟨n7, i7, a7, N7, m7, A7⟩ := hcut
    clear A5 A6 hm6 ht6 s6
    have hi7 := A7.out.2.1
    by_cases hw : wd (L.drop i7) = [66, 89]
    · go_upto_region 8 with (go_at_call 32; refine (found_yes _ b g cap L i7 (o + 1) A7.out.1.st.rd [66, 89] (by decide) hw).mono ?_; rintro e w8 ⟨rfl, s8⟩; have A8 : Hid (FN w w8 b g cap L (i7 + 1) (o + 1) w.heap.size w2.heap.size (w2.heap.size + 1) 22 x3.t false tk.p a7 N7 m7 [n5, n7] ∧ ((exprR (o + 1) (L.drop (i7 + 1))).bind fun d u => cnt4 f o tk.p x3.t [n5, n7, d] u) = R) := ⟨A7.out.1.step bl s8 (by omega), by rw [← A7.out.2.2]; unfold cnt3; rw [if_pos hw, List.tail_drop]; cases exprR (o + 1) (L.drop (i7 + 1)) <;> rfl⟩; clear hw)
      go_cut [] (fun Y => ∃ l9 i9 a9 N9 m9, Hid (FN w Y b g cap L i9 (o + 1) w.heap.size w2.heap.size (w2.heap.size + 1) 22 x3.t false tk.p a9 N9 m9 l9 ∧ i < i9 ∧ l9.length ≤ 3 ∧ cnt4 f o tk.p x3.t l9 (L.drop i9) = R))
      case first =>
        have D := (A8.out.1).drew bl
        have rD := D.row
        have lD := D.lt
        refine wp_region_held_drew (S := (fun _ => True)) (by kernel_rfl) trivial (fun hHeld => ?_)
        refine wpAnyH_take (i := 0) (v := ?_) rfl (by kernel_rfl) (by kernel_rfl) (by kernel_rfl) (fun _ _ _ h => h) (Or.inl ⟨by rfl, ?y0c⟩) hHeld ?r0c
        case y0c => (intro w2 hSw; (try dsimp only at hSw); go_simp; try rfl)
        simp only [Act.put, List.setIfInBounds_toArray, List.set_cons_zero, List.set_cons_succ]
        refine wpAnyH_take (i := 2) (v := ?_) rfl (by kernel_rfl) (by kernel_rfl) (by kernel_rfl) (fun _ _ _ h => h) (Or.inl ⟨by rfl, ?y2c⟩) hHeld ?r2c
        case y2c => (intro w2 hSw; (try dsimp only at hSw); go_simp; try rfl)
        simp only [Act.put, List.setIfInBounds_toArray, List.set_cons_zero, List.set_cons_succ]
        refine wpAnyH_ready (rs := [1, 3]) (by kernel_rfl) (by simp) ?_
        refine .cons rfl (fun K hK => ?_) (.cons rfl (fun K hK => ?_) .nil)
        · have cL := rowAt_cell rD
          go_simp
          refine hK.out _ _ trivial (fun _ => ?_)
          clear hK K
          refine wpAnyH_ready (rs := [3]) (by kernel_rfl) (by simp) ?_
          refine .cons rfl (fun K hK => ?_) .nil
          go_simp
          go_wp2_with (go_at_call 16; refine (expression_any _ b g cap L (i7 + 1) (o + 1) D.st.rd).mono ?_; intro e w5 hP; rcases postN_or hP with ⟨n5x, t5, c5, i5x, hy5, rfl, ht5, hi5x, s5, nd5⟩ | ⟨p5, er5, hy5, he, g5⟩ <;> first | (have hs5 := s5.size; clear hP) | (unfold gaveUp at he; subst he))
          rotate_left
          · rw [← A8.out.2, hy5, Rs.bind_bad]; exact ⟨rfl, rfl, gb_trans D.st.gb g5⟩
          have r5 := (D.step bl s5 (by omega)).row
          refine hK.out _ _ trivial (fun _ => ?_)
          clear hK K
          refine wpAnyH_ready (rs := [4]) (by kernel_rfl) (by simp) ?_
          refine .cons rfl (fun K hK => ?_) .nil
          go_simp
          have r6 : rowAt (w5.alloc (.cells c5.cells 31)) _ = _ := (rowAt_old _ _ _ (Nat.ne_of_lt (Nat.lt_of_lt_of_le lD.1 hs5))).trans r5
          refine hK.out _ _ trivial (fun _ => ?_)
          clear hK K
          refine wpAnyH_ready (rs := [5]) (by kernel_rfl) (by simp) ?_
          refine .cons rfl (fun K hK => ?_) .nil
          obtain ⟨g6, N6, cp6, Y6, hrun6, rY6, fY6, F6⟩ := D.push (W := w5.alloc (.cells c5.cells 31)) bl gl s5 nd5 (by simp; omega) rfl
          clear s5 nd5
          go_simp
          refine hK.out _ _ trivial (fun _ => ?_)
          clear hK K
          refine wpAnyH_ready (rs := [6]) (by kernel_rfl) (by simp) ?_
          refine .cons rfl (fun K hK => ?_) .nil
          go_simp
          refine hK.out _ _ trivial (fun _ => ?_)
          clear hK K
          refine wpAnyH_ready (rs := [7]) (by kernel_rfl) (by simp) ?_
          refine .cons rfl (fun K hK => ?_) .nil
          have cY := rowAt_cell rY6
          go_simp
          refine hK.out _ _ trivial (fun _ => ?_)
          clear hK K
          refine wpAnyH_done (by kernel_rfl) ?_ _
          go_wp2_with fail
          go_meet
          exact ⟨_, i5x, _, _, _, F6.out, by omega, by simp, by rw [← A8.out.2, hy5, Rs.bind_ok, ht5]; rfl⟩
        · go_simp
          go_wp2_with (go_at_call 16; refine (expression_any _ b g cap L (i7 + 1) (o + 1) D.st.rd).mono ?_; intro e w5 hP; rcases postN_or hP with ⟨n5x, t5, c5, i5x, hy5, rfl, ht5, hi5x, s5, nd5⟩ | ⟨p5, er5, hy5, he, g5⟩ <;> first | (have hs5 := s5.size; clear hP) | (unfold gaveUp at he; subst he))
          rotate_left
          · rw [← A8.out.2, hy5, Rs.bind_bad]; exact ⟨rfl, rfl, gb_trans D.st.gb g5⟩
          have r5 := (D.step bl s5 (by omega)).row
          refine hK.out _ _ trivial (fun _ => ?_)
          clear hK K
          refine wpAnyH_ready (rs := [1, 4]) (by kernel_rfl) (by simp) ?_
          refine .cons rfl (fun K hK => ?_) (.cons rfl (fun K hK => ?_) .nil)
          · have cL := rowAt_cell r5
            go_simp
            refine hK.out _ _ trivial (fun _ => ?_)
            clear hK K
            refine wpAnyH_ready (rs := [4]) (by kernel_rfl) (by simp) ?_
            refine .cons rfl (fun K hK => ?_) .nil
            go_simp
            have r6 : rowAt (w5.alloc (.cells c5.cells 31)) _ = _ := (rowAt_old _ _ _ (Nat.ne_of_lt (Nat.lt_of_lt_of_le lD.1 hs5))).trans r5
            refine hK.out _ _ trivial (fun _ => ?_)
            clear hK K
            refine wpAnyH_ready (rs := [5]) (by kernel_rfl) (by simp) ?_
            refine .cons rfl (fun K hK => ?_) .nil
            obtain ⟨g6, N6, cp6, Y6, hrun6, rY6, fY6, F6⟩ := D.push (W := w5.alloc (.cells c5.cells 31)) bl gl s5 nd5 (by simp; omega) rfl
            clear s5 nd5
            go_simp
            refine hK.out _ _ trivial (fun _ => ?_)
            clear hK K
            refine wpAnyH_ready (rs := [6]) (by kernel_rfl) (by simp) ?_
            refine .cons rfl (fun K hK => ?_) .nil
            go_simp
            refine hK.out _ _ trivial (fun _ => ?_)
            clear hK K
            refine wpAnyH_ready (rs := [7]) (by kernel_rfl) (by simp) ?_
            refine .cons rfl (fun K hK => ?_) .nil
            have cY := rowAt_cell rY6
            go_simp
            refine hK.out _ _ trivial (fun _ => ?_)
            clear hK K
            refine wpAnyH_done (by kernel_rfl) ?_ _
            go_wp2_with fail
            go_meet
            exact ⟨_, i5x, _, _, _, F6.out, by omega, by simp, by rw [← A8.out.2, hy5, Rs.bind_ok, ht5]; rfl⟩
          · go_simp
            have r6 : rowAt (w5.alloc (.cells c5.cells 31)) _ = _ := (rowAt_old _ _ _ (Nat.ne_of_lt (Nat.lt_of_lt_of_le lD.1 hs5))).trans r5
            refine hK.out _ _ trivial (fun _ => ?_)
            clear hK K
            refine wpAnyH_ready (rs := [1]) (by kernel_rfl) (by simp) ?_
            refine .cons rfl (fun K hK => ?_) .nil
            have cL := rowAt_cell r6
            go_simp
            refine hK.out _ _ trivial (fun _ => ?_)
            clear hK K
            refine wpAnyH_ready (rs := [5]) (by kernel_rfl) (by simp) ?_
            refine .cons rfl (fun K hK => ?_) .nil
            obtain ⟨g6, N6, cp6, Y6, hrun6, rY6, fY6, F6⟩ := D.push (W := w5.alloc (.cells c5.cells 31)) bl gl s5 nd5 (by simp; omega) rfl
            clear s5 nd5
            go_simp
            refine hK.out _ _ trivial (fun _ => ?_)
            clear hK K
            refine wpAnyH_ready (rs := [6]) (by kernel_rfl) (by simp) ?_
            refine .cons rfl (fun K hK => ?_) .nil
            go_simp
            refine hK.out _ _ trivial (fun _ => ?_)
            clear hK K
            refine wpAnyH_ready (rs := [7]) (by kernel_rfl) (by simp) ?_
            refine .cons rfl (fun K hK => ?_) .nil
            have cY := rowAt_cell rY6
            go_simp
            refine hK.out _ _ trivial (fun _ => ?_)
            clear hK K
            refine wpAnyH_done (by kernel_rfl) ?_ _
            go_wp2_with fail
            go_meet
            exact ⟨_, i5x, _, _, _, F6.out, by omega, by simp, by rw [← A8.out.2, hy5, Rs.bind_ok, ht5]; rfl⟩
      case rest =>
      obtain ⟨l9, i9, a9, N9, m9, A9⟩ := hcut
      clear A7 A8
      go_upto_region 10 with (first
        | (go_at_call 30; refine (must_any _ b g cap L i9 (o + 1) A9.out.1.st.rd [68, 79] (by decide)).mono ?_; intro e w10 hP; rcases postT_or hP with ⟨x10, u10, hm10, rfl, ht10, s10⟩ | ⟨p10, er10, hm10, he, g10⟩ <;> first
        | (have hs10 := s10.size; have A10 : Hid (FN w w10 b g cap L (i9 + 1) (o + 1) w.heap.size w2.heap.size (w2.heap.size + 1) 22 x3.t false tk.p a9 N9 m9 l9 ∧ ((blkR f (o + 1) (L.drop (i9 + 1))).bind fun y v => (mustR [69, 78, 68] v).bind fun _ v => Rs.ok (Nd.mk 22 x3.t 0 false (l9 ++ [y]) tk.p) v) = R) := ⟨A9.out.1.step bl s10 (by omega), by rw [← A9.out.2.2.2]; unfold cnt4; rw [hm10, Rs.bind_ok, ht10]⟩; have hi10 : l9.length ≤ i9 ∧ i < i9 := ⟨A9.out.1.len, A9.out.2.1⟩; clear hm10 ht10 s10; clear hP)
        | (unfold gaveUp at he; subst he)))
      rotate_left
      · rw [← A9.out.2.2.2]; unfold cnt4; rw [hm10, Rs.bind_bad]; exact ⟨rfl, rfl, gb_trans A9.out.1.st.gb g10⟩
      go_cut [] (fun Y => ∃ l11 i11 a11 N11 m11, Hid (FN w Y b g cap L i11 (o + 1) w.heap.size w2.heap.size (w2.heap.size + 1) 22 x3.t false tk.p a11 N11 m11 l11 ∧ i < i11 ∧ ((mustR [69, 78, 68] (L.drop i11)).bind fun _ v => Rs.ok (Nd.mk 22 x3.t 0 false l11 tk.p) v) = R))
      case first =>
        have D := (A10.out.1).drew bl
        have rD := D.row
        have lD := D.lt
        refine wp_region_held_drew (S := (fun _ => True)) (by kernel_rfl) trivial (fun hHeld => ?_)
        refine wpAnyH_take (i := 0) (v := ?_) rfl (by kernel_rfl) (by kernel_rfl) (by kernel_rfl) (fun _ _ _ h => h) (Or.inl ⟨by rfl, ?y0d⟩) hHeld ?r0d
        case y0d => (intro w2 hSw; (try dsimp only at hSw); go_simp; try rfl)
        simp only [Act.put, List.setIfInBounds_toArray, List.set_cons_zero, List.set_cons_succ]
        refine wpAnyH_take (i := 2) (v := ?_) rfl (by kernel_rfl) (by kernel_rfl) (by kernel_rfl) (fun _ _ _ h => h) (Or.inl ⟨by rfl, ?y2d⟩) hHeld ?r2d
        case y2d => (intro w2 hSw; (try dsimp only at hSw); go_simp; try rfl)
        simp only [Act.put, List.setIfInBounds_toArray, List.set_cons_zero, List.set_cons_succ]
        refine wpAnyH_ready (rs := [1, 3]) (by kernel_rfl) (by simp) ?_
        refine .cons rfl (fun K hK => ?_) (.cons rfl (fun K hK => ?_) .nil)
        · have cL := rowAt_cell rD
          go_simp
          refine hK.out _ _ trivial (fun _ => ?_)
          clear hK K
          refine wpAnyH_ready (rs := [3]) (by kernel_rfl) (by simp) ?_
          refine .cons rfl (fun K hK => ?_) .nil
          go_simp
          go_wp2_with (go_at_call 41; refine (BL.out _ (i9 + 1) (by have := hi10.2; omega) D.st.rd).mono ?_; intro e w5 hP; rcases postB_or hP with ⟨n5x, t5, c5, i5x, hy5, rfl, ht5, hi5x, s5, nd5⟩ | ⟨p5, er5, hy5, he, g5⟩ <;> first | (have hs5 := s5.size; clear hP) | (unfold gaveUp at he; subst he))
          rotate_left
          · rw [← A10.out.2, hy5, Rs.bind_bad]; exact ⟨rfl, rfl, gb_trans D.st.gb g5⟩
          have r5 := (D.step bl s5 (by omega)).row
          refine hK.out _ _ trivial (fun _ => ?_)
          clear hK K
          refine wpAnyH_ready (rs := [4]) (by kernel_rfl) (by simp) ?_
          refine .cons rfl (fun K hK => ?_) .nil
          go_simp
          have r6 : rowAt (w5.alloc (.cells c5.cells 31)) _ = _ := (rowAt_old _ _ _ (Nat.ne_of_lt (Nat.lt_of_lt_of_le lD.1 hs5))).trans r5
          refine hK.out _ _ trivial (fun _ => ?_)
          clear hK K
          refine wpAnyH_ready (rs := [5]) (by kernel_rfl) (by simp) ?_
          refine .cons rfl (fun K hK => ?_) .nil
          obtain ⟨g6, N6, cp6, Y6, hrun6, rY6, fY6, F6⟩ := D.push (W := w5.alloc (.cells c5.cells 31)) bl gl s5 nd5 (by have := hi10.1; omega) rfl
          clear s5 nd5
          go_simp
          refine hK.out _ _ trivial (fun _ => ?_)
          clear hK K
          refine wpAnyH_ready (rs := [6]) (by kernel_rfl) (by simp) ?_
          refine .cons rfl (fun K hK => ?_) .nil
          go_simp
          refine hK.out _ _ trivial (fun _ => ?_)
          clear hK K
          refine wpAnyH_ready (rs := [7]) (by kernel_rfl) (by simp) ?_
          refine .cons rfl (fun K hK => ?_) .nil
          have cY := rowAt_cell rY6
          go_simp
          refine hK.out _ _ trivial (fun _ => ?_)
          clear hK K
          refine wpAnyH_done (by kernel_rfl) ?_ _
          go_wp2_with fail
          go_meet
          exact ⟨_, i5x, _, _, _, F6.out, by omega, by rw [← A10.out.2, hy5, Rs.bind_ok, ht5]⟩
        · go_simp
          go_wp2_with (go_at_call 41; refine (BL.out _ (i9 + 1) (by have := hi10.2; omega) D.st.rd).mono ?_; intro e w5 hP; rcases postB_or hP with ⟨n5x, t5, c5, i5x, hy5, rfl, ht5, hi5x, s5, nd5⟩ | ⟨p5, er5, hy5, he, g5⟩ <;> first | (have hs5 := s5.size; clear hP) | (unfold gaveUp at he; subst he))
          rotate_left
          · rw [← A10.out.2, hy5, Rs.bind_bad]; exact ⟨rfl, rfl, gb_trans D.st.gb g5⟩
          have r5 := (D.step bl s5 (by omega)).row
          refine hK.out _ _ trivial (fun _ => ?_)
          clear hK K
          refine wpAnyH_ready (rs := [1, 4]) (by kernel_rfl) (by simp) ?_
          refine .cons rfl (fun K hK => ?_) (.cons rfl (fun K hK => ?_) .nil)
          · have cL := rowAt_cell r5
            go_simp
            refine hK.out _ _ trivial (fun _ => ?_)
            clear hK K
            refine wpAnyH_ready (rs := [4]) (by kernel_rfl) (by simp) ?_
            refine .cons rfl (fun K hK => ?_) .nil
            go_simp
            have r6 : rowAt (w5.alloc (.cells c5.cells 31)) _ = _ := (rowAt_old _ _ _ (Nat.ne_of_lt (Nat.lt_of_lt_of_le lD.1 hs5))).trans r5
            refine hK.out _ _ trivial (fun _ => ?_)
            clear hK K
            refine wpAnyH_ready (rs := [5]) (by kernel_rfl) (by simp) ?_
            refine .cons rfl (fun K hK => ?_) .nil
            obtain ⟨g6, N6, cp6, Y6, hrun6, rY6, fY6, F6⟩ := D.push (W := w5.alloc (.cells c5.cells 31)) bl gl s5 nd5 (by have := hi10.1; omega) rfl
            clear s5 nd5
            go_simp
            refine hK.out _ _ trivial (fun _ => ?_)
            clear hK K
            refine wpAnyH_ready (rs := [6]) (by kernel_rfl) (by simp) ?_
            refine .cons rfl (fun K hK => ?_) .nil
            go_simp
            refine hK.out _ _ trivial (fun _ => ?_)
            clear hK K
            refine wpAnyH_ready (rs := [7]) (by kernel_rfl) (by simp) ?_
            refine .cons rfl (fun K hK => ?_) .nil
            have cY := rowAt_cell rY6
            go_simp
            refine hK.out _ _ trivial (fun _ => ?_)
            clear hK K
            refine wpAnyH_done (by kernel_rfl) ?_ _
            go_wp2_with fail
            go_meet
            exact ⟨_, i5x, _, _, _, F6.out, by omega, by rw [← A10.out.2, hy5, Rs.bind_ok, ht5]⟩
          · go_simp
            have r6 : rowAt (w5.alloc (.cells c5.cells 31)) _ = _ := (rowAt_old _ _ _ (Nat.ne_of_lt (Nat.lt_of_lt_of_le lD.1 hs5))).trans r5
            refine hK.out _ _ trivial (fun _ => ?_)
            clear hK K
            refine wpAnyH_ready (rs := [1]) (by kernel_rfl) (by simp) ?_
            refine .cons rfl (fun K hK => ?_) .nil
            have cL := rowAt_cell r6
            go_simp
            refine hK.out _ _ trivial (fun _ => ?_)
            clear hK K
            refine wpAnyH_ready (rs := [5]) (by kernel_rfl) (by simp) ?_
            refine .cons rfl (fun K hK => ?_) .nil
            obtain ⟨g6, N6, cp6, Y6, hrun6, rY6, fY6, F6⟩ := D.push (W := w5.alloc (.cells c5.cells 31)) bl gl s5 nd5 (by have := hi10.1; omega) rfl
            clear s5 nd5
            go_simp
            refine hK.out _ _ trivial (fun _ => ?_)
            clear hK K
            refine wpAnyH_ready (rs := [6]) (by kernel_rfl) (by simp) ?_
            refine .cons rfl (fun K hK => ?_) .nil
            go_simp
            refine hK.out _ _ trivial (fun _ => ?_)
            clear hK K
            refine wpAnyH_ready (rs := [7]) (by kernel_rfl) (by simp) ?_
            refine .cons rfl (fun K hK => ?_) .nil
            have cY := rowAt_cell rY6
            go_simp
            refine hK.out _ _ trivial (fun _ => ?_)
            clear hK K
            refine wpAnyH_done (by kernel_rfl) ?_ _
            go_wp2_with fail
            go_meet
            exact ⟨_, i5x, _, _, _, F6.out, by omega, by rw [← A10.out.2, hy5, Rs.bind_ok, ht5]⟩
      case rest =>
      obtain ⟨l11, i11, a11, N11, m11, A11⟩ := hcut
      clear A9 A10
      go_wp2_with (first
        | (go_at_call 30; refine (must_any _ b g cap L i11 (o + 1) A11.out.1.st.rd [69, 78, 68] (by decide)).mono ?_; intro e w12 hP; rcases postT_or hP with ⟨x12, u12, hm12, rfl, ht12, s12⟩ | ⟨p12, er12, hm12, he, g12⟩ <;> first
        | (have hs12 := s12.size; have A12 : Hid (FN w w12 b g cap L (i11 + 1) (o + 1) w.heap.size w2.heap.size (w2.heap.size + 1) 22 x3.t false tk.p a11 N11 m11 l11 ∧ Rs.ok (Nd.mk 22 x3.t 0 false l11 tk.p) (L.drop (i11 + 1)) = R) := ⟨A11.out.1.step bl s12 (by omega), by rw [← A11.out.2.2, hm12, Rs.bind_ok, ht12]⟩; clear hm12 ht12 s12; clear hP)
        | (unfold gaveUp at he; subst he))
        | (go_at_call 77; refine (end_any _ b g cap L (i11 + 1) o A12.out.1.st.rd).mono ?_; rintro e w13 ⟨rfl, s13⟩; have A13 := A12.out.1.step bl s13 (Nat.le_refl _); have r13 := A13.row; have m13 := A13.res; have H13 : Hid (FN w w13 b g cap L (i11 + 1) o w.heap.size w2.heap.size (w2.heap.size + 1) 22 x3.t false tk.p a11 N11 m11 l11) := A13; clear A13))
      all_goals first
        | (rw [← A11.out.2.2, hm12, Rs.bind_bad]; exact ⟨rfl, rfl, gb_trans A11.out.1.st.gb g12⟩)
        | (rw [← A12.out.2]; exact ret_cell1 rfl rfl (loadNd_row (rowNd_put _ _ _ m13)) rfl (H13.out.fin bl gl (by have := A11.out.2.1; omega)))
    · obtain ⟨l9, i9, a9, N9, m9, L9, E9⟩ : ∃ l9 i9 a9 N9 m9, l9 = [n5, n7] ∧ i9 = i7 ∧ a9 = a7 ∧ N9 = N7 ∧ m9 = m7 := ⟨_, _, _, _, _, rfl, rfl, rfl, rfl, rfl⟩
      obtain ⟨rfl, rfl, rfl, rfl⟩ := E9
      go_upto_region 10 with (first
        | (go_at_call 32; refine (found_no _ b g cap L i9 (o + 1) A7.out.1.st.rd [66, 89] hw).mono ?_; rintro e w8 ⟨rfl, hb8⟩; have A9 : Hid (FN w w8 b g cap L i9 (o + 1) w.heap.size w2.heap.size (w2.heap.size + 1) 22 x3.t false tk.p a9 N9 m9 l9 ∧ i < i9 ∧ l9.length ≤ 3 ∧ cnt4 f o tk.p x3.t l9 (L.drop i9) = R) := ⟨by rw [L9]; exact A7.out.1.below bl hb8, A7.out.2.1, by rw [L9]; simp, by rw [← A7.out.2.2, L9]; unfold cnt3; rw [if_neg hw, Rs.bind_ok]; rfl⟩; clear hw)
        | (go_at_call 30; refine (must_any _ b g cap L i9 (o + 1) A9.out.1.st.rd [68, 79] (by decide)).mono ?_; intro e w10 hP; rcases postT_or hP with ⟨x10, u10, hm10, rfl, ht10, s10⟩ | ⟨p10, er10, hm10, he, g10⟩ <;> first
        | (have hs10 := s10.size; have A10 : Hid (FN w w10 b g cap L (i9 + 1) (o + 1) w.heap.size w2.heap.size (w2.heap.size + 1) 22 x3.t false tk.p a9 N9 m9 l9 ∧ ((blkR f (o + 1) (L.drop (i9 + 1))).bind fun y v => (mustR [69, 78, 68] v).bind fun _ v => Rs.ok (Nd.mk 22 x3.t 0 false (l9 ++ [y]) tk.p) v) = R) := ⟨A9.out.1.step bl s10 (by omega), by rw [← A9.out.2.2.2]; unfold cnt4; rw [hm10, Rs.bind_ok, ht10]⟩; have hi10 : l9.length ≤ i9 ∧ i < i9 := ⟨A9.out.1.len, A9.out.2.1⟩; clear hm10 ht10 s10; clear hP)
        | (unfold gaveUp at he; subst he)))
      rotate_left
      · rw [← A9.out.2.2.2]; unfold cnt4; rw [hm10, Rs.bind_bad]; exact ⟨rfl, rfl, gb_trans A9.out.1.st.gb g10⟩
      go_cut [] (fun Y => ∃ l11 i11 a11 N11 m11, Hid (FN w Y b g cap L i11 (o + 1) w.heap.size w2.heap.size (w2.heap.size + 1) 22 x3.t false tk.p a11 N11 m11 l11 ∧ i < i11 ∧ ((mustR [69, 78, 68] (L.drop i11)).bind fun _ v => Rs.ok (Nd.mk 22 x3.t 0 false l11 tk.p) v) = R))
      case first =>
        have D := (A10.out.1).drew bl
        have rD := D.row
        have lD := D.lt
        refine wp_region_held_drew (S := (fun _ => True)) (by kernel_rfl) trivial (fun hHeld => ?_)
        refine wpAnyH_take (i := 0) (v := ?_) rfl (by kernel_rfl) (by kernel_rfl) (by kernel_rfl) (fun _ _ _ h => h) (Or.inl ⟨by rfl, ?y0e⟩) hHeld ?r0e
        case y0e => (intro w2 hSw; (try dsimp only at hSw); go_simp; try rfl)
        simp only [Act.put, List.setIfInBounds_toArray, List.set_cons_zero, List.set_cons_succ]
        refine wpAnyH_take (i := 2) (v := ?_) rfl (by kernel_rfl) (by kernel_rfl) (by kernel_rfl) (fun _ _ _ h => h) (Or.inl ⟨by rfl, ?y2e⟩) hHeld ?r2e
        case y2e => (intro w2 hSw; (try dsimp only at hSw); go_simp; try rfl)
        simp only [Act.put, List.setIfInBounds_toArray, List.set_cons_zero, List.set_cons_succ]
        refine wpAnyH_ready (rs := [1, 3]) (by kernel_rfl) (by simp) ?_
        refine .cons rfl (fun K hK => ?_) (.cons rfl (fun K hK => ?_) .nil)
        · have cL := rowAt_cell rD
          go_simp
          refine hK.out _ _ trivial (fun _ => ?_)
          clear hK K
          refine wpAnyH_ready (rs := [3]) (by kernel_rfl) (by simp) ?_
          refine .cons rfl (fun K hK => ?_) .nil
          go_simp
          go_wp2_with (go_at_call 41; refine (BL.out _ (i9 + 1) (by have := hi10.2; omega) D.st.rd).mono ?_; intro e w5 hP; rcases postB_or hP with ⟨n5x, t5, c5, i5x, hy5, rfl, ht5, hi5x, s5, nd5⟩ | ⟨p5, er5, hy5, he, g5⟩ <;> first | (have hs5 := s5.size; clear hP) | (unfold gaveUp at he; subst he))
          rotate_left
          · rw [← A10.out.2, hy5, Rs.bind_bad]; exact ⟨rfl, rfl, gb_trans D.st.gb g5⟩
          have r5 := (D.step bl s5 (by omega)).row
          refine hK.out _ _ trivial (fun _ => ?_)
          clear hK K
          refine wpAnyH_ready (rs := [4]) (by kernel_rfl) (by simp) ?_
          refine .cons rfl (fun K hK => ?_) .nil
          go_simp
          have r6 : rowAt (w5.alloc (.cells c5.cells 31)) _ = _ := (rowAt_old _ _ _ (Nat.ne_of_lt (Nat.lt_of_lt_of_le lD.1 hs5))).trans r5
          refine hK.out _ _ trivial (fun _ => ?_)
          clear hK K
          refine wpAnyH_ready (rs := [5]) (by kernel_rfl) (by simp) ?_
          refine .cons rfl (fun K hK => ?_) .nil
          obtain ⟨g6, N6, cp6, Y6, hrun6, rY6, fY6, F6⟩ := D.push (W := w5.alloc (.cells c5.cells 31)) bl gl s5 nd5 (by have := hi10.1; omega) rfl
          clear s5 nd5
          go_simp
          refine hK.out _ _ trivial (fun _ => ?_)
          clear hK K
          refine wpAnyH_ready (rs := [6]) (by kernel_rfl) (by simp) ?_
          refine .cons rfl (fun K hK => ?_) .nil
          go_simp
          refine hK.out _ _ trivial (fun _ => ?_)
          clear hK K
          refine wpAnyH_ready (rs := [7]) (by kernel_rfl) (by simp) ?_
          refine .cons rfl (fun K hK => ?_) .nil
          have cY := rowAt_cell rY6
          go_simp
          refine hK.out _ _ trivial (fun _ => ?_)
          clear hK K
          refine wpAnyH_done (by kernel_rfl) ?_ _
          go_wp2_with fail
          go_meet
          exact ⟨_, i5x, _, _, _, F6.out, by omega, by rw [← A10.out.2, hy5, Rs.bind_ok, ht5]⟩
        · go_simp
          go_wp2_with (go_at_call 41; refine (BL.out _ (i9 + 1) (by have := hi10.2; omega) D.st.rd).mono ?_; intro e w5 hP; rcases postB_or hP with ⟨n5x, t5, c5, i5x, hy5, rfl, ht5, hi5x, s5, nd5⟩ | ⟨p5, er5, hy5, he, g5⟩ <;> first | (have hs5 := s5.size; clear hP) | (unfold gaveUp at he; subst he))
          rotate_left
          · rw [← A10.out.2, hy5, Rs.bind_bad]; exact ⟨rfl, rfl, gb_trans D.st.gb g5⟩
          have r5 := (D.step bl s5 (by omega)).row
          refine hK.out _ _ trivial (fun _ => ?_)
          clear hK K
          refine wpAnyH_ready (rs := [1, 4]) (by kernel_rfl) (by simp) ?_
          refine .cons rfl (fun K hK => ?_) (.cons rfl (fun K hK => ?_) .nil)
          · have cL := rowAt_cell r5
            go_simp
            refine hK.out _ _ trivial (fun _ => ?_)
            clear hK K
            refine wpAnyH_ready (rs := [4]) (by kernel_rfl) (by simp) ?_
            refine .cons rfl (fun K hK => ?_) .nil
            go_simp
            have r6 : rowAt (w5.alloc (.cells c5.cells 31)) _ = _ := (rowAt_old _ _ _ (Nat.ne_of_lt (Nat.lt_of_lt_of_le lD.1 hs5))).trans r5
            refine hK.out _ _ trivial (fun _ => ?_)
            clear hK K
            refine wpAnyH_ready (rs := [5]) (by kernel_rfl) (by simp) ?_
            refine .cons rfl (fun K hK => ?_) .nil
            obtain ⟨g6, N6, cp6, Y6, hrun6, rY6, fY6, F6⟩ := D.push (W := w5.alloc (.cells c5.cells 31)) bl gl s5 nd5 (by have := hi10.1; omega) rfl
            clear s5 nd5
            go_simp
            refine hK.out _ _ trivial (fun _ => ?_)
            clear hK K
            refine wpAnyH_ready (rs := [6]) (by kernel_rfl) (by simp) ?_
            refine .cons rfl (fun K hK => ?_) .nil
            go_simp
            refine hK.out _ _ trivial (fun _ => ?_)
            clear hK K
            refine wpAnyH_ready (rs := [7]) (by kernel_rfl) (by simp) ?_
            refine .cons rfl (fun K hK => ?_) .nil
            have cY := rowAt_cell rY6
            go_simp
            refine hK.out _ _ trivial (fun _ => ?_)
            clear hK K
            refine wpAnyH_done (by kernel_rfl) ?_ _
            go_wp2_with fail
            go_meet
            exact ⟨_, i5x, _, _, _, F6.out, by omega, by rw [← A10.out.2, hy5, Rs.bind_ok, ht5]⟩
          · go_simp
            have r6 : rowAt (w5.alloc (.cells c5.cells 31)) _ = _ := (rowAt_old _ _ _ (Nat.ne_of_lt (Nat.lt_of_lt_of_le lD.1 hs5))).trans r5
            refine hK.out _ _ trivial (fun _ => ?_)
            clear hK K
            refine wpAnyH_ready (rs := [1]) (by kernel_rfl) (by simp) ?_
            refine .cons rfl (fun K hK => ?_) .nil
            have cL := rowAt_cell r6
            go_simp
            refine hK.out _ _ trivial (fun _ => ?_)
            clear hK K
            refine wpAnyH_ready (rs := [5]) (by kernel_rfl) (by simp) ?_
            refine .cons rfl (fun K hK => ?_) .nil
            obtain ⟨g6, N6, cp6, Y6, hrun6, rY6, fY6, F6⟩ := D.push (W := w5.alloc (.cells c5.cells 31)) bl gl s5 nd5 (by have := hi10.1; omega) rfl
            clear s5 nd5
            go_simp
            refine hK.out _ _ trivial (fun _ => ?_)
            clear hK K
            refine wpAnyH_ready (rs := [6]) (by kernel_rfl) (by simp) ?_
            refine .cons rfl (fun K hK => ?_) .nil
            go_simp
            refine hK.out _ _ trivial (fun _ => ?_)
            clear hK K
            refine wpAnyH_ready (rs := [7]) (by kernel_rfl) (by simp) ?_
            refine .cons rfl (fun K hK => ?_) .nil
            have cY := rowAt_cell rY6
            go_simp
            refine hK.out _ _ trivial (fun _ => ?_)
            clear hK K
            refine wpAnyH_done (by kernel_rfl) ?_ _
            go_wp2_with fail
            go_meet
            exact ⟨_, i5x, _, _, _, F6.out, by omega, by rw [← A10.out.2, hy5, Rs.bind_ok, ht5]⟩
      case rest =>
      obtain ⟨l11, i11, a11, N11, m11, A11⟩ := hcut
      clear A9 A10
      go_wp2_with (first
        | (go_at_call 30; refine (must_any _ b g cap L i11 (o + 1) A11.out.1.st.rd [69, 78, 68] (by decide)).mono ?_; intro e w12 hP; rcases postT_or hP with ⟨x12, u12, hm12, rfl, ht12, s12⟩ | ⟨p12, er12, hm12, he, g12⟩ <;> first
        | (have hs12 := s12.size; have A12 : Hid (FN w w12 b g cap L (i11 + 1) (o + 1) w.heap.size w2.heap.size (w2.heap.size + 1) 22 x3.t false tk.p a11 N11 m11 l11 ∧ Rs.ok (Nd.mk 22 x3.t 0 false l11 tk.p) (L.drop (i11 + 1)) = R) := ⟨A11.out.1.step bl s12 (by omega), by rw [← A11.out.2.2, hm12, Rs.bind_ok, ht12]⟩; clear hm12 ht12 s12; clear hP)
        | (unfold gaveUp at he; subst he))
        | (go_at_call 77; refine (end_any _ b g cap L (i11 + 1) o A12.out.1.st.rd).mono ?_; rintro e w13 ⟨rfl, s13⟩; have A13 := A12.out.1.step bl s13 (Nat.le_refl _); have r13 := A13.row; have m13 := A13.res; have H13 : Hid (FN w w13 b g cap L (i11 + 1) o w.heap.size w2.heap.size (w2.heap.size + 1) 22 x3.t false tk.p a11 N11 m11 l11) := A13; clear A13))
      all_goals first
        | (rw [← A11.out.2.2, hm12, Rs.bind_bad]; exact ⟨rfl, rfl, gb_trans A11.out.1.st.gb g12⟩)
        | (rw [← A12.out.2]; exact ret_cell1 rfl rfl (loadNd_row (rowNd_put _ _ _ m13)) rfl (H13.out.fin bl gl (by have := A11.out.2.1; omega)))
end Go.Proofs.YtllhcjmabhempaaDoor

namespace Go.Proofs.YtllhcjmabhempaaDoor
set_option linter.unusedVariables false
set_option linter.unusedSimpArgs false
open Go.ChangeShapes Go.WideShapes Go.ChangeAt Go.RowKit


attribute [local go_sem] fieldTk0 fieldTk3 hmf
attribute [local go_sem ↓] bslNd_seal
attribute [local go_sem] bslNd1_run bslNd2_run

def asnR (o : Nat) (t : List Tok) : Rs Nd := (desigR o t).bind fun d r => if wd r = [58, 61] then (exprR o r.tail).bind fun y s => .ok (.mk 17 [] 0 false [d, y] (hd t).p) s else .ok (.mk 18 [] 0 false [d] (hd t).p) r
set_option maxHeartbeats 4000000 in
set_option maxRecDepth 20000 in
theorem assign_any (w : World) (b g cap : Nat) (L : List Tok) (i o : Nat) (h : RdAt w b g cap L i o) : Calls Tryd.prog 69 #[.pointer (some ⟨b, 0, none⟩)] w (PostN w b g cap L i o (asnR o (L.drop i))) := by
  have bl := h.bl
  have gl := h.gl
  have H : Hid (RdAt w b g cap L i o) := h
  have E1 : Hid (∀ X, RdAt X b g cap L i o → Calls Tryd.prog 81 #[.pointer (some ⟨b, 0, none⟩)] X (PostN X b g cap L i o (desigR o (L.drop i)))) := fun X hX => designator_any X b g cap L i o hX
  have HE : Hid (∀ X, RdAt X b g cap L i o → Calls Tryd.prog 28 #[.pointer (some ⟨b, 0, none⟩)] X _) := fun X hX => here_any X b g cap L i o hX
  unfold asnR
  generalize hd (L.drop i) = tk at HE ⊢
  clear h
  cases hr : desigR o (L.drop i) with
  | bad p e =>
    rw [hr] at E1
    rw [Rs.bind_bad]
    clear hr
    go_enter Tryd.func69, Tryd.ntmps69
    go_wp2_with (first
      | (go_at_call 28; refine (HE.out _ (H.out.alloc _)).mono ?_; rintro e w0 ⟨rfl, hb0⟩; have B0 : Hid (St w w0 b g cap L i o) := ((St.refl H.out).alloc _).below hb0; have hs0 := hb0.size; simp at hs0; have m0 : roomAt w0 w.heap.size 6 = true := (roomAt_below hb0 _ _ (by simp)).trans (roomNd_new _ _ _ _ (by simp)))
      | (go_at_call 81; refine (E1.out _ B0.out.rd).mono ?_; rintro e w1 ⟨he, g1⟩; unfold gaveUp at he; subst he))
    exact ⟨rfl, rfl, gb_trans B0.out.gb g1⟩
  | ok x r =>
    rw [hr] at E1
    rw [Rs.bind_ok]
    clear hr
    by_cases hk : wd r = [58, 61]
    · rw [if_pos hk]
      have FO : Hid (∀ i1, r = L.drop i1 → ∀ X, RdAt X b g cap L i1 o → Calls Tryd.prog 32 #[.pointer (some ⟨b, 0, none⟩), .string (bs [58, 61])] X _) := fun i1 e1 X hX => found_yes X b g cap L i1 o hX [58, 61] (by simp) (by rw [← e1]; exact hk)
      have E2 : ∀ i1, r = L.drop i1 → ∀ X, RdAt X b g cap L (i1 + 1) o → Calls Tryd.prog 16 #[.pointer (some ⟨b, 0, none⟩)] X (PostN X b g cap L (i1 + 1) o (exprR o r.tail)) := fun i1 e1 X hX => by
        have := expression_any X b g cap L (i1 + 1) o hX
        rwa [← List.tail_drop, ← e1] at this
      clear hk
      cases hr2 : exprR o r.tail with
      | bad p e =>
        rw [Rs.bind_bad]
        have E3 : Hid (∀ i1, i < i1 → r = L.drop i1 → ∀ X, RdAt X b g cap L (i1 + 1) o → Calls Tryd.prog 16 #[.pointer (some ⟨b, 0, none⟩)] X (PostN X b g cap L (i1 + 1) o (.bad p e))) := fun i1 _ e1 X hX => by
          have := E2 i1 e1 X hX
          rwa [hr2] at this
        clear hr2 E2
        go_enter Tryd.func69, Tryd.ntmps69
        go_upto_region 4 with (first
          | (go_at_call 28; refine (HE.out _ (H.out.alloc _)).mono ?_; rintro e w0 ⟨rfl, hb0⟩; have B0 : Hid (St w w0 b g cap L i o) := ((St.refl H.out).alloc _).below hb0; have hs0 := hb0.size; simp at hs0; have m0 : roomAt w0 w.heap.size 6 = true := (roomAt_below hb0 _ _ (by simp)).trans (roomNd_new _ _ _ _ (by simp)))
          | (go_at_call 81; refine (E1.out _ B0.out.rd).mono ?_; rintro e w1 ⟨c1, i1, rfl, ht1, hi1, s1, nd1⟩; have hs1 := s1.size; have A1 : Hid (St w w1 b g cap L i1 o ∧ NdAt w1 (fun x => w.heap.size + 1 ≤ x) c1 x ∧ i < i1 ∧ r = L.drop i1) := ⟨B0.out.next s1, nd1.mono (by omega), hi1, ht1⟩; have m2 : roomAt w1 w.heap.size 6 = true := (s1.room (by omega) (by omega) 6).trans m0; clear nd1 s1 ht1 hi1)
          | (go_at_call 32; refine (FO.out i1 A1.out.2.2.2 _ (A1.out.1.alloc _).rd).mono ?_; rintro e w3 ⟨rfl, s3⟩; have hs3 := s3.size; simp at hs3; have r4 : rowAt w3 w1.heap.size = some c1.cells := (s3.row (by simp) (by omega)).trans (rowAt_at _ _ _ _ _ rfl); have m4 : roomAt w3 w.heap.size 6 = true := (s3.room (by simp; omega) (by omega) 6).trans ((roomAt_old _ _ _ _ (by omega)).trans m2); have A3 : Hid (St w w3 b g cap L (i1 + 1) o ∧ NdAt w3 (fun x => w.heap.size + 1 ≤ x) c1 x) := ⟨(A1.out.1.alloc _).next s3, NdAt.stepP (b := b) A1.out.2.1 (fun x hx => by omega) (gb_trans (gb_of_below (by go_grown) b) s3.gb)⟩))
        have R4 : rowAt w3.drew w1.heap.size = some c1.cells := r4
        have S4 := A3.out.1.drew
        refine wp_region_held_drew (S := (fun X => rowAt X w1.heap.size = some c1.cells)) (by kernel_rfl) R4 (fun hHeld => ?_)
        refine wpAnyH_take (i := 0) (v := ?_) rfl (by kernel_rfl) (by kernel_rfl) (by kernel_rfl) (fun _ _ _ h => h) (Or.inl ⟨by rfl, ?y0b⟩) hHeld ?r0b
        case y0b => (intro w2 hSw; (try dsimp only at hSw); go_simp; try rfl)
        simp only [Act.put, List.setIfInBounds_toArray, List.set_cons_zero, List.set_cons_succ]
        refine wpAnyH_take (i := 1) (v := ?_) rfl (by kernel_rfl) (by kernel_rfl) (by kernel_rfl) (fun _ _ _ h => h) (Or.inl ⟨by rfl, ?y1b⟩) hHeld ?r1b
        case y1b => (intro w2 hSw; (try dsimp only at hSw); go_simp; try rfl)
        simp only [Act.put, List.setIfInBounds_toArray, List.set_cons_zero, List.set_cons_succ]
        refine wpAnyH_take (i := 2) (v := ?_) rfl (by kernel_rfl) (by kernel_rfl) (by kernel_rfl) (fun _ _ _ h => h) (Or.inl ⟨by rfl, ?y2b⟩) hHeld ?r2b
        case y2b => (intro w2 hSw; (try dsimp only at hSw); go_simp; try rfl)
        simp only [Act.put, List.setIfInBounds_toArray, List.set_cons_zero, List.set_cons_succ]
        refine wpAnyH_ready (rs := [3]) (by kernel_rfl) (by simp) ?_
        refine .cons rfl (fun K hK => ?_) .nil
        go_simp
        go_wp2_with (go_at_call 16; refine (E3.out i1 A1.out.2.2.1 A1.out.2.2.2 _ S4.rd).mono ?_; rintro e w5 ⟨he, g5⟩; unfold gaveUp at he; subst he)
        exact ⟨rfl, rfl, gb_trans S4.gb g5⟩
      | ok y s =>
        rw [Rs.bind_ok]
        have E3 : Hid (∀ i1, i < i1 → r = L.drop i1 → ∀ X, RdAt X b g cap L (i1 + 1) o → Calls Tryd.prog 16 #[.pointer (some ⟨b, 0, none⟩)] X (PostN X b g cap L (i1 + 1) o (.ok y s))) := fun i1 _ e1 X hX => by
          have := E2 i1 e1 X hX
          rwa [hr2] at this
        clear hr2 E2
        go_enter Tryd.func69, Tryd.ntmps69
        go_upto_region 4 with (first
          | (go_at_call 28; refine (HE.out _ (H.out.alloc _)).mono ?_; rintro e w0 ⟨rfl, hb0⟩; have B0 : Hid (St w w0 b g cap L i o) := ((St.refl H.out).alloc _).below hb0; have hs0 := hb0.size; simp at hs0; have m0 : roomAt w0 w.heap.size 6 = true := (roomAt_below hb0 _ _ (by simp)).trans (roomNd_new _ _ _ _ (by simp)))
          | (go_at_call 81; refine (E1.out _ B0.out.rd).mono ?_; rintro e w1 ⟨c1, i1, rfl, ht1, hi1, s1, nd1⟩; have hs1 := s1.size; have A1 : Hid (St w w1 b g cap L i1 o ∧ NdAt w1 (fun x => w.heap.size + 1 ≤ x) c1 x ∧ i < i1 ∧ r = L.drop i1) := ⟨B0.out.next s1, nd1.mono (by omega), hi1, ht1⟩; have m2 : roomAt w1 w.heap.size 6 = true := (s1.room (by omega) (by omega) 6).trans m0; clear nd1 s1 ht1 hi1)
          | (go_at_call 32; refine (FO.out i1 A1.out.2.2.2 _ (A1.out.1.alloc _).rd).mono ?_; rintro e w3 ⟨rfl, s3⟩; have hs3 := s3.size; simp at hs3; have r4 : rowAt w3 w1.heap.size = some c1.cells := (s3.row (by simp) (by omega)).trans (rowAt_at _ _ _ _ _ rfl); have m4 : roomAt w3 w.heap.size 6 = true := (s3.room (by simp; omega) (by omega) 6).trans ((roomAt_old _ _ _ _ (by omega)).trans m2); have A3 : Hid (St w w3 b g cap L (i1 + 1) o ∧ NdAt w3 (fun x => w.heap.size + 1 ≤ x) c1 x) := ⟨(A1.out.1.alloc _).next s3, NdAt.stepP (b := b) A1.out.2.1 (fun x hx => by omega) (gb_trans (gb_of_below (by go_grown) b) s3.gb)⟩))
        have R4 : rowAt w3.drew w1.heap.size = some c1.cells := r4
        have S4 := A3.out.1.drew
        refine wp_region_held_drew (S := (fun X => rowAt X w1.heap.size = some c1.cells)) (by kernel_rfl) R4 (fun hHeld => ?_)
        refine wpAnyH_take (i := 0) (v := ?_) rfl (by kernel_rfl) (by kernel_rfl) (by kernel_rfl) (fun _ _ _ h => h) (Or.inl ⟨by rfl, ?y0a⟩) hHeld ?r0a
        case y0a => (intro w2 hSw; (try dsimp only at hSw); go_simp; try rfl)
        simp only [Act.put, List.setIfInBounds_toArray, List.set_cons_zero, List.set_cons_succ]
        refine wpAnyH_take (i := 1) (v := ?_) rfl (by kernel_rfl) (by kernel_rfl) (by kernel_rfl) (fun _ _ _ h => h) (Or.inl ⟨by rfl, ?y1a⟩) hHeld ?r1a
        case y1a => (intro w2 hSw; (try dsimp only at hSw); go_simp; try rfl)
        simp only [Act.put, List.setIfInBounds_toArray, List.set_cons_zero, List.set_cons_succ]
        refine wpAnyH_take (i := 2) (v := ?_) rfl (by kernel_rfl) (by kernel_rfl) (by kernel_rfl) (fun _ _ _ h => h) (Or.inl ⟨by rfl, ?y2a⟩) hHeld ?r2a
        case y2a => (intro w2 hSw; (try dsimp only at hSw); go_simp; try rfl)
        simp only [Act.put, List.setIfInBounds_toArray, List.set_cons_zero, List.set_cons_succ]
        refine wpAnyH_ready (rs := [3]) (by kernel_rfl) (by simp) ?_
        refine .cons rfl (fun K hK => ?_) .nil
        go_simp
        go_wp2_with (go_at_call 16; refine (E3.out i1 A1.out.2.2.1 A1.out.2.2.2 _ S4.rd).mono ?_; rintro e w5 ⟨c5, i5, rfl, ht5, hi5, s5, nd5⟩)
        have hs5 := s5.size
        simp at hs5
        have z1 : w1.heap.size ≠ b := by omega
        have hh5 := hold1_gb hHeld s5.gb z1
        refine hK.out _ _ hh5 (fun _ => ?_)
        clear hK K
        refine wpAnyH_ready (rs := [4]) (by kernel_rfl) (by simp) ?_
        refine .cons rfl (fun K hK => ?_) .nil
        go_simp
        have g6 : w5.grownBy (w5.alloc (.cells (c1.cells ++ c5.cells) 31)) (some b) := gb_of_below (by go_grown) b
        refine hK.out _ _ (hold1_gb hh5 g6 z1) (fun _ => ?_)
        clear hK K
        refine wpAnyH_ready (rs := [5]) (by kernel_rfl) (by simp) ?_
        refine .cons rfl (fun K hK => ?_) .nil
        go_simp
        go_wp2_with (go_at_call 59; refine (node_any _ _ _ _ _ _).mono ?_; rintro e w6 ⟨rfl, hb6⟩)
        have hs6 := hb6.size
        simp at hs6
        have g7 := gb_trans s5.gb (gb_trans g6 (gb_of_below hb6 b))
        have hh6 := hold1_gb hHeld g7 z1
        refine hK.out _ _ hh6 (fun _ => ?_)
        clear hK K
        have m6 : roomAt w6 w.heap.size 6 = true := (room_gb g7 (by simp; omega) (by omega) 6).trans m4
        have S6 : St w w6 b g cap L i5 o := ((S4.next s5).alloc _).below hb6
        have mb : w6.heap[w5.heap.size]? = some (.cells (c1.cells ++ c5.cells) 31 (0, 0)) := (hb6.block _ (by simp)).trans (heap_new' _ _ rfl)
        have n1 : NdAt w6 (fun x => w.heap.size + 1 ≤ x) c1 x := NdAt.stepP (w := w3.drew) (b := b) (NdAt.keep (w := w3) (w' := w3.drew) (P := fun x => w.heap.size + 1 ≤ x) (fun x hx _ => hx) (Nat.le_refl _) (fun _ _ _ => rfl) A3.out.2) (fun x hx => by omega) g7
        have n5 : NdAt w6 (fun x => w.heap.size + 1 ≤ x) c5 y := nd5.keep (fun x hx _ => by simp at hx; omega) (gb_trans g6 (gb_of_below hb6 b)).size (fun x hx hl => (gb_trans g6 (gb_of_below hb6 b)).block x hl (fun e => by injection e with e; simp at hx; omega))
        have nf : NdAt w6 (fun x => w.heap.size + 1 ≤ x) ⟨17, ⟨#[]⟩, 0, false, some ⟨w5.heap.size, 0, none⟩, 2, 2, (tk.p : Int)⟩ (.mk 17 [] 0 false [x, y] tk.p) := by
          have hl : w5.heap.size < w6.heap.size := (Array.getElem?_eq_some_iff.1 mb).1
          refine NdAt.mk 17 [] 0 false [x, y] tk.p _ 2 (KidsAt.cons w5.heap.size 0 c1 x [y] (by omega) hl (fun i hi => ?_) n1 (KidsAt.cons w5.heap.size 1 c5 y [] (by omega) hl (fun i hi => ?_) n5 (KidsAt.nil _ _)))
          · rw [← two0 c1 c5 i hi]; simp [World.cell?, mb]
          · rw [← two1 c1 c5 i hi]; simp [World.cell?, mb]
        have FP := fin_post (i := i) S6 bl gl (by have := A1.out.2.2.1; omega) ht5 nf
        have HF : Hid (PostN w b g cap L i o _ _ _) := FP
        refine wpAnyH_ready (rs := [6]) (by kernel_rfl) (by simp) ?_
        refine .cons rfl (fun K hK => ?_) .nil
        have rw6 := (row_far w6 w.heap.size w1.heap.size (⟨17, ⟨#[]⟩, 0, false, some ⟨w5.heap.size, 0, none⟩, 2, 2, (tk.p : Int)⟩ : Nc).cells (by omega)).trans hh6
        clear FP nf n1 n5 mb S6 g7 g6 hh5 nd5 s5 ht5 hi5
        go_simp
        refine hK.out _ _ rw6 (fun _ => ?_)
        clear hK K
        refine wpAnyH_done (by kernel_rfl) ?_ _
        go_wp2_with fail
        exact ret_cell1 rfl rfl (loadNd_row (rowNd_put _ _ _ m6)) rfl HF.out
    · rw [if_neg hk]
      have FO : Hid (∀ i1, r = L.drop i1 → ∀ X, RdAt X b g cap L i1 o → Calls Tryd.prog 32 #[.pointer (some ⟨b, 0, none⟩), .string (bs [58, 61])] X _) := fun i1 e1 X hX => found_no X b g cap L i1 o hX [58, 61] (by rw [← e1]; exact hk)
      clear hk
      go_enter Tryd.func69, Tryd.ntmps69
      go_wp2_with (first
        | (go_at_call 28; refine (HE.out _ (H.out.alloc _)).mono ?_; rintro e w0 ⟨rfl, hb0⟩; have B0 : Hid (St w w0 b g cap L i o) := ((St.refl H.out).alloc _).below hb0; have hs0 := hb0.size; simp at hs0; have m0 : roomAt w0 w.heap.size 6 = true := (roomAt_below hb0 _ _ (by simp)).trans (roomNd_new _ _ _ _ (by simp)))
        | (go_at_call 81; refine (E1.out _ B0.out.rd).mono ?_; rintro e w1 ⟨c1, i1, rfl, ht1, hi1, s1, nd1⟩; have hs1 := s1.size; have A1 : Hid (St w w1 b g cap L i1 o ∧ NdAt w1 (fun x => w.heap.size + 1 ≤ x) c1 x ∧ i < i1 ∧ r = L.drop i1) := ⟨B0.out.next s1, nd1.mono (by omega), hi1, ht1⟩; have m2 : roomAt w1 w.heap.size 6 = true := (s1.room (by omega) (by omega) 6).trans m0; clear nd1 s1 ht1 hi1)
        | (go_at_call 32; refine (FO.out i1 A1.out.2.2.2 _ (A1.out.1.alloc _).rd).mono ?_; rintro e w3 ⟨rfl, hb3⟩; have hs3 := hb3.size; simp at hs3; have r4 : rowAt w3 w1.heap.size = some c1.cells := (rowAt_below hb3 _ (by simp)).trans (rowAt_at _ _ _ _ _ rfl); have m4 : roomAt w3 w.heap.size 6 = true := (roomAt_below hb3 _ _ (by simp; omega)).trans ((roomAt_old _ _ _ _ (by omega)).trans m2); have A3 : Hid (St w w3 b g cap L i1 o ∧ NdAt w3 (fun x => w.heap.size + 1 ≤ x) c1 x) := ⟨(A1.out.1.alloc _).below hb3, NdAt.stepP (b := b) A1.out.2.1 (fun x hx => by omega) (gb_trans (gb_of_below (by go_grown) b) (gb_of_below hb3 b))⟩)
        | (go_at_call 59; refine (node_any _ _ _ _ _ _).mono ?_; rintro e w6 ⟨rfl, hb6⟩; have hs6 := hb6.size; simp at hs6; have m6 : roomAt w6 w.heap.size 6 = true := (roomAt_below hb6 _ _ (by simp; omega)).trans ((roomAt_old _ _ _ _ (by omega)).trans m4)))
      have mb : w6.heap[w3.heap.size]? = some (.cells c1.cells 31 (0, 0)) := (hb6.block _ (by simp)).trans (heap_new' _ _ rfl)
      have S6 : St w w6 b g cap L i1 o := (A3.out.1.alloc _).below hb6
      have n1 : NdAt w6 (fun x => w.heap.size + 1 ≤ x) c1 x := NdAt.stepP (b := b) A3.out.2 (fun x hx => by omega) (gb_trans (gb_of_below (by go_grown) b) (gb_of_below hb6 b))
      have nf : NdAt w6 (fun x => w.heap.size + 1 ≤ x) ⟨18, ⟨#[]⟩, 0, false, some ⟨w3.heap.size, 0, none⟩, 1, 1, (tk.p : Int)⟩ (.mk 18 [] 0 false [x] tk.p) := by
        have hl : w3.heap.size < w6.heap.size := (Array.getElem?_eq_some_iff.1 mb).1
        refine NdAt.mk 18 [] 0 false [x] tk.p _ 1 (KidsAt.cons w3.heap.size 0 c1 x [] (by omega) hl (fun i hi => ?_) n1 (KidsAt.nil _ _))
        simp [World.cell?, mb]
      exact ret_cell1 rfl rfl (loadNd_row (rowNd_put _ _ _ m6)) rfl (fin_post (i := i) S6 bl gl A1.out.2.2.1 A1.out.2.2.2 nf)
end Go.Proofs.YtllhcjmabhempaaDoor

namespace Go.Proofs.YtllhcjmabhempaaDoor
set_option linter.unusedVariables false
set_option linter.unusedSimpArgs false
open Go.ChangeShapes Go.WideShapes Go.ChangeAt Go.RowKit


attribute [local go_sem] fieldTk0 fieldTk1 fieldTk3 hmf

theorem stat_if (f o : Nat) (t : List Tok) (hk : (hd t).k ≠ 1) (h : wd t = [73, 70]) : runS (f + 1) .stat o t = iffR f o t := by
  rw [runS, if_neg hk, if_pos h]
  unfold iffR
  congr 1; funext x r; congr 1; funext l s; congr 1
  split
  · unfold blkR; rw [Rs.assoc]; rfl
  · rfl
theorem stat_while (f o : Nat) (t : List Tok) (hk : (hd t).k ≠ 1) (h : wd t = [87, 72, 73, 76, 69]) : runS (f + 1) .stat o t = whlR f o t := by
  rw [runS, if_neg hk, if_neg (by rw [h]; decide), if_pos h]; rfl
theorem stat_repeat (f o : Nat) (t : List Tok) (hk : (hd t).k ≠ 1) (h : wd t = [82, 69, 80, 69, 65, 84]) : runS (f + 1) .stat o t = rptR f o t := by
  rw [runS, if_neg hk, if_neg (by rw [h]; decide), if_neg (by rw [h]; decide), if_pos h]
  unfold rptR
  congr 1; funext x r
  unfold blkR; rw [Rs.assoc]; rfl
theorem stat_for (f o : Nat) (t : List Tok) (hk : (hd t).k ≠ 1) (h : wd t = [70, 79, 82]) : runS (f + 1) .stat o t = cntR f o t := by
  rw [runS, if_neg hk, if_neg (by rw [h]; decide), if_neg (by rw [h]; decide), if_neg (by rw [h]; decide)]
  unfold cntR cnt2 cnt3 cnt4
  congr 1; funext x r; congr 1; funext z s; congr 1; funext _ s; congr 1; funext a s; congr 1; funext _ s; congr 1; funext c s; congr 1; funext l s; congr 1; funext _ u
  unfold blkR; rw [Rs.assoc]; rfl
theorem stat_name (f o : Nat) (t : List Tok) (hk : (hd t).k = 1) : runS (f + 1) .stat o t = asnR o t := by
  rw [runS, if_pos hk]; rfl
theorem kind_wd {t : List Tok} (h : wd t ≠ []) : (hd t).k ≠ 1 := by
  intro e; apply h; unfold wd; rw [e]; simp
theorem postS_ok {w w' : World} {b g cap i o i' : Nat} {L t : List Tok} {n : Nd} {c : Nc} {R : Rs Nd} (hb : begins (L.drop i)) (hR : R = .ok n t) (ht : t = L.drop i') (hi : i < i') (bl : b < w.heap.size) (gl : g < w.heap.size) (S : St w w' b g cap L i' o) (nd : NdAt w' (fun x => w.heap.size + 1 ≤ x) c n) :
    PostS w b g cap L i o R (.returned (.tuple #[.agg c.cells, .bool true])) (putRow w' w.heap.size c.cells) :=
  .inl ⟨hb, n, t, c, i', hR, rfl, ht, hi, S.old bl gl _ (Nat.le_refl _) _, nd.keep (fun x hx _ => by omega) (by rw [size_put]; exact Nat.le_refl _) (fun x hx _ => put_far _ _ _ _ (by omega))⟩
set_option maxHeartbeats 8000000 in
set_option maxRecDepth 20000 in
theorem statement_step (f : Nat) (hB : ∀ f', f' ≤ f → PsB f') : PsS (f + 1) := by
  intro w b g cap L i o h hf
  have bl := h.bl
  have gl := h.gl
  have hil := h.il
  have H : Hid (RdAt w b g cap L i o) := h
  have WA : Hid (∀ X, RdAt X b g cap L i o → Calls Tryd.prog 39 #[.pointer (some ⟨b, 0, none⟩)] X _) := fun X hX => word_any X b g cap L i o hX
  have HE : Hid (∀ X, RdAt X b g cap L i o → Calls Tryd.prog 28 #[.pointer (some ⟨b, 0, none⟩)] X _) := fun X hX => here_any X b g cap L i o hX
  have AS : Hid ((hd (L.drop i)).k = 1 → ∀ X, RdAt X b g cap L i o → Calls Tryd.prog 69 #[.pointer (some ⟨b, 0, none⟩)] X (PostN X b g cap L i o (runS (f + 1) .stat o (L.drop i)))) := fun hk X hX => by rw [stat_name f o _ hk]; exact assign_any X b g cap L i o hX
  have IF : Hid (wd (L.drop i) = [73, 70] → ∀ X, RdAt X b g cap L i o → Calls Tryd.prog 70 #[.pointer (some ⟨b, 0, none⟩), .int .i64 19, .string (bs [84, 72, 69, 78])] X (PostN X b g cap L i o (runS (f + 1) .stat o (L.drop i)))) := fun hw X hX => by
    rw [stat_if f o _ (kind_wd (by rw [hw]; decide)) hw]; exact iff_step f hB X b g cap L i o hX (wd_kind (by rw [hw]; decide)) (by omega)
  have WH : Hid (wd (L.drop i) = [87, 72, 73, 76, 69] → ∀ X, RdAt X b g cap L i o → Calls Tryd.prog 70 #[.pointer (some ⟨b, 0, none⟩), .int .i64 20, .string (bs [68, 79])] X (PostN X b g cap L i o (runS (f + 1) .stat o (L.drop i)))) := fun hw X hX => by
    rw [stat_while f o _ (kind_wd (by rw [hw]; decide)) hw]; exact whl_step f hB X b g cap L i o hX (wd_kind (by rw [hw]; decide)) (by omega)
  have RP : Hid (wd (L.drop i) = [82, 69, 80, 69, 65, 84] → ∀ X, RdAt X b g cap L i o → Calls Tryd.prog 71 #[.pointer (some ⟨b, 0, none⟩)] X (PostN X b g cap L i o (runS (f + 1) .stat o (L.drop i)))) := fun hw X hX => by
    rw [stat_repeat f o _ (kind_wd (by rw [hw]; decide)) hw]; exact repeat_step f (hB f (Nat.le_refl _)) X b g cap L i o hX (wd_kind (by rw [hw]; decide)) (by omega)
  have CN : Hid (wd (L.drop i) = [70, 79, 82] → ∀ X, RdAt X b g cap L i o → Calls Tryd.prog 72 #[.pointer (some ⟨b, 0, none⟩)] X (PostN X b g cap L i o (runS (f + 1) .stat o (L.drop i)))) := fun hw X hX => by
    rw [stat_for f o _ (kind_wd (by rw [hw]; decide)) hw]; exact count_step f (hB f (Nat.le_refl _)) X b g cap L i o hX (wd_kind (by rw [hw]; decide)) (by omega)
  have BG : Hid (begins (L.drop i) ↔ (hd (L.drop i)).k = 1 ∨ wd (L.drop i) = [73, 70] ∨ wd (L.drop i) = [87, 72, 73, 76, 69] ∨ wd (L.drop i) = [82, 69, 80, 69, 65, 84] ∨ wd (L.drop i) = [70, 79, 82]) := Iff.rfl
  have k := rk (wd (L.drop i))
  generalize hR : runS (f + 1) .stat o (L.drop i) = R at AS IF WH RP CN ⊢
  have ek : (hd (L.drop i)).tk.k = (hd (L.drop i)).k := rfl
  clear h hf hB hR
  go_enter Tryd.func60, Tryd.ntmps60
  go_wp2_with (first
    | (go_at_call 28; refine (HE.out _ (H.out.alloc _)).mono ?_; rintro e w1 ⟨rfl, hb1⟩; have hs1 := hb1.size; simp at hs1; have B1 : Hid (St w w1 b g cap L i o) := ((St.refl H.out).alloc _).below hb1; have m1 : roomAt w1 w.heap.size 6 = true := (roomAt_below hb1 _ _ (by simp)).trans (roomNd_new _ _ _ _ (by simp)); by_cases hk : (hd (L.drop i)).k = 1 <;> first
        | (have e1 : ((hd (L.drop i)).k == 1) = true := (by simpa using hk); have W0 : Hid ((hd (L.drop i)).k = 1) := hk; clear hk)
        | (have e1 : ((hd (L.drop i)).k == 1) = false := (by simpa using hk); have W0 : Hid (¬ (hd (L.drop i)).k = 1) := hk; clear hk))
    | (go_at_call 69; refine (AS.out W0.out _ B1.out.rd).mono ?_; intro e w3 hP; have BE : Hid (begins (L.drop i)) := BG.out.2 (.inl W0.out); rcases postN_or hP with ⟨n3, t3, c3, i3, hy, rfl, ht3, hi3, s3, nd3⟩ | ⟨p3, er, hy, he, g3⟩ <;> first
        | (have hs3 := s3.size; have m3 : roomAt w3 w.heap.size 6 = true := (s3.room (by omega) (by omega) 6).trans m1; have S3 : Hid (R = .ok n3 t3 ∧ St w w3 b g cap L i3 o ∧ NdAt w3 (fun x => w.heap.size + 1 ≤ x) c3 n3) := ⟨hy, B1.out.next s3, nd3.mono (by omega)⟩; clear hy nd3 hP s3)
        | (unfold gaveUp at he; subst he; have G3 : Hid (R = .bad p3 er ∧ w.grownBy w3 (some b)) := ⟨hy, gb_trans B1.out.gb g3⟩; clear hy hP))
    | (go_at_call 39; refine (WA.out _ B1.out.rd).mono ?_; rintro e w2 ⟨rfl, hb2⟩; have hs2 := hb2.size; have B2 : Hid (St w w2 b g cap L i o) := B1.out.below hb2; have m2 : roomAt w2 w.heap.size 6 = true := (roomAt_below hb2 _ _ (by omega)).trans m1; by_cases h1 : wd (L.drop i) = [73, 70] <;> first
        | (have d1 : decide (wd (L.drop i) = [73, 70]) = true := (by simpa using h1); have W1 : Hid (wd (L.drop i) = [73, 70]) := h1; clear h1; have BE : Hid (begins (L.drop i)) := BG.out.2 (.inr (.inl W1.out)); have P1 := IF)
        | (have d1 : decide (wd (L.drop i) = [73, 70]) = false := (by simpa using h1); have V1 : Hid (¬ wd (L.drop i) = [73, 70]) := h1; clear h1; by_cases h1 : wd (L.drop i) = [87, 72, 73, 76, 69] <;> first
            | (have d2 : decide (wd (L.drop i) = [87, 72, 73, 76, 69]) = true := (by simpa using h1); have W2 : Hid (wd (L.drop i) = [87, 72, 73, 76, 69]) := h1; clear h1; have BE : Hid (begins (L.drop i)) := BG.out.2 (.inr (.inr (.inl W2.out))))
            | (have d2 : decide (wd (L.drop i) = [87, 72, 73, 76, 69]) = false := (by simpa using h1); have V2 : Hid (¬ wd (L.drop i) = [87, 72, 73, 76, 69]) := h1; clear h1; by_cases h1 : wd (L.drop i) = [82, 69, 80, 69, 65, 84] <;> first
                | (have d3 : decide (wd (L.drop i) = [82, 69, 80, 69, 65, 84]) = true := (by simpa using h1); have W3 : Hid (wd (L.drop i) = [82, 69, 80, 69, 65, 84]) := h1; clear h1; have BE : Hid (begins (L.drop i)) := BG.out.2 (.inr (.inr (.inr (.inl W3.out)))))
                | (have d3 : decide (wd (L.drop i) = [82, 69, 80, 69, 65, 84]) = false := (by simpa using h1); have V3 : Hid (¬ wd (L.drop i) = [82, 69, 80, 69, 65, 84]) := h1; clear h1; by_cases h1 : wd (L.drop i) = [70, 79, 82] <;> first
                    | (have d4 : decide (wd (L.drop i) = [70, 79, 82]) = true := (by simpa using h1); have W4 : Hid (wd (L.drop i) = [70, 79, 82]) := h1; clear h1; have BE : Hid (begins (L.drop i)) := BG.out.2 (.inr (.inr (.inr (.inr W4.out)))))
                    | (have d4 : decide (wd (L.drop i) = [70, 79, 82]) = false := (by simpa using h1); have V4 : Hid (¬ wd (L.drop i) = [70, 79, 82]) := h1; clear h1; have NB : Hid (¬ begins (L.drop i)) := (fun e => (BG.out.1 e).elim W0.out fun e => e.elim V1.out fun e => e.elim V2.out fun e => e.elim V3.out V4.out))))))
    | (go_at_call 70; have hx := W1; clear hx; refine (IF.out W1.out _ B2.out.rd).mono ?_; intro e w3 hP; rcases postN_or hP with ⟨n3, t3, c3, i3, hy, rfl, ht3, hi3, s3, nd3⟩ | ⟨p3, er, hy, he, g3⟩ <;> first
        | (have hs3 := s3.size; have m3 : roomAt w3 w.heap.size 6 = true := (s3.room (by omega) (by omega) 6).trans m2; have S3 : Hid (R = .ok n3 t3 ∧ St w w3 b g cap L i3 o ∧ NdAt w3 (fun x => w.heap.size + 1 ≤ x) c3 n3) := ⟨hy, B2.out.next s3, nd3.mono (by omega)⟩; clear hy nd3 hP s3)
        | (unfold gaveUp at he; subst he; have G3 : Hid (R = .bad p3 er ∧ w.grownBy w3 (some b)) := ⟨hy, gb_trans B2.out.gb g3⟩; clear hy hP))
    | (go_at_call 70; have hx := W2; clear hx; refine (WH.out W2.out _ B2.out.rd).mono ?_; intro e w3 hP; rcases postN_or hP with ⟨n3, t3, c3, i3, hy, rfl, ht3, hi3, s3, nd3⟩ | ⟨p3, er, hy, he, g3⟩ <;> first
        | (have hs3 := s3.size; have m3 : roomAt w3 w.heap.size 6 = true := (s3.room (by omega) (by omega) 6).trans m2; have S3 : Hid (R = .ok n3 t3 ∧ St w w3 b g cap L i3 o ∧ NdAt w3 (fun x => w.heap.size + 1 ≤ x) c3 n3) := ⟨hy, B2.out.next s3, nd3.mono (by omega)⟩; clear hy nd3 hP s3)
        | (unfold gaveUp at he; subst he; have G3 : Hid (R = .bad p3 er ∧ w.grownBy w3 (some b)) := ⟨hy, gb_trans B2.out.gb g3⟩; clear hy hP))
    | (go_at_call 71; refine (RP.out W3.out _ B2.out.rd).mono ?_; intro e w3 hP; rcases postN_or hP with ⟨n3, t3, c3, i3, hy, rfl, ht3, hi3, s3, nd3⟩ | ⟨p3, er, hy, he, g3⟩ <;> first
        | (have hs3 := s3.size; have m3 : roomAt w3 w.heap.size 6 = true := (s3.room (by omega) (by omega) 6).trans m2; have S3 : Hid (R = .ok n3 t3 ∧ St w w3 b g cap L i3 o ∧ NdAt w3 (fun x => w.heap.size + 1 ≤ x) c3 n3) := ⟨hy, B2.out.next s3, nd3.mono (by omega)⟩; clear hy nd3 hP s3)
        | (unfold gaveUp at he; subst he; have G3 : Hid (R = .bad p3 er ∧ w.grownBy w3 (some b)) := ⟨hy, gb_trans B2.out.gb g3⟩; clear hy hP))
    | (go_at_call 72; refine (CN.out W4.out _ B2.out.rd).mono ?_; intro e w3 hP; rcases postN_or hP with ⟨n3, t3, c3, i3, hy, rfl, ht3, hi3, s3, nd3⟩ | ⟨p3, er, hy, he, g3⟩ <;> first
        | (have hs3 := s3.size; have m3 : roomAt w3 w.heap.size 6 = true := (s3.room (by omega) (by omega) 6).trans m2; have S3 : Hid (R = .ok n3 t3 ∧ St w w3 b g cap L i3 o ∧ NdAt w3 (fun x => w.heap.size + 1 ≤ x) c3 n3) := ⟨hy, B2.out.next s3, nd3.mono (by omega)⟩; clear hy nd3 hP s3)
        | (unfold gaveUp at he; subst he; have G3 : Hid (R = .bad p3 er ∧ w.grownBy w3 (some b)) := ⟨hy, gb_trans B2.out.gb g3⟩; clear hy hP)))
  all_goals first
    | (exact ⟨rfl, .inr (.inl ⟨BE.out, p3, er, G3.out.1, rfl, G3.out.2⟩)⟩)
    | (exact ret_cell_tmp rfl rfl (loadNd_row (rowNd_put _ _ _ m3)) rfl (postS_ok BE.out S3.out.1 ht3 hi3 bl gl S3.out.2.1 S3.out.2.2))
    | (exact ret_cell_tmp rfl rfl (loadNd_row (rowNd_put _ _ _ m2)) rfl (.inr (.inr ⟨NB.out, rfl, B2.out.old bl gl _ (Nat.le_refl _) _⟩)))
/-- All statements. -/
theorem stats_all : ∀ n f, f ≤ n → PsB f ∧ PsS f := by
  intro n
  induction n with
  | zero =>
    intro f hf
    obtain rfl : f = 0 := by omega
    exact ⟨fun w b g cap L i o h hf => by omega, fun w b g cap L i o h hf => by omega⟩
  | succ n ih =>
    intro f hf
    by_cases h : f ≤ n
    · exact ih f h
    · obtain rfl : f = n + 1 := by omega
      exact ⟨block_step n fun f' h' => (ih f' h').2, statement_step n fun f' h' => (ih f' h').1⟩
theorem block_any (w : World) (b g cap : Nat) (L : List Tok) (i o : Nat) (h : RdAt w b g cap L i o) : Calls Tryd.prog 41 #[.pointer (some ⟨b, 0, none⟩)] w (PostB w b g cap L i o (blockR o (L.drop i))) := by
  have := (stats_all _ _ (Nat.le_refl ((L.drop i).length * 4 + 4))).1 w b g cap L i o h (by rw [List.length_drop]; omega)
  exact this
end Go.Proofs.YtllhcjmabhempaaDoor
