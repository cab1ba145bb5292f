/-
  Layer 9: sums and products.
-/
import Derived.Test.YtllhcjmabhempaaDoorExp
namespace Go.Proofs.YtllhcjmabhempaaDoor
set_option linter.unusedVariables false
set_option linter.unusedSimpArgs false
open Go.ChangeShapes Go.WideShapes Go.ChangeAt Go.RowKit


attribute [local go_sem] fieldTk0 fieldTk3 hmf

/-- The loop's state. -/
def Lpsimple (w X : World) (b g cap : Nat) (L : List Tok) (i o q : Nat) (R : Rs Nd) (f i1 : Nat) : Prop := ∃ l c f1, f1 ≤ f ∧ run f1 (.simpleL l) o (L.drop i1) = R ∧ (L.length - i1) * 40 + 15 ≤ f1 ∧ i < i1 ∧ rowAt X q = some (Nc.cells c) ∧ roomAt X q 6 = true ∧ roomAt X w.heap.size 6 = true ∧ St w X b g cap L i1 o ∧ NdAt X (fun x => w.heap.size + 1 ≤ x ∧ x ≠ q) c l
set_option maxHeartbeats 4000000 in
set_option maxRecDepth 20000 in
theorem simple_step (f : Nat) (hS : Pc 61 .first f) (hT : ∀ f', f' ≤ f → Pc 62 .term f') : Pc 43 .simple (f + 1) := by
  intro w b g cap L i o h hf
  have bl := h.bl
  have gl := h.gl
  have hil := h.il
  have H : Hid (RdAt w b g cap L i o) := h
  have hf0 : (L.length - i) * 40 + 18 ≤ f + 1 := hf
  have S1 : Hid (∀ X, RdAt X b g cap L i o → Calls Tryd.prog 61 #[.pointer (some ⟨b, 0, none⟩)] X (PostN X b g cap L i o (run f .first o (L.drop i)))) := fun X hX => hS X b g cap L i o hX (by show (L.length - i) * 40 + 16 ≤ f; omega)
  have HT : Hid (∀ f', f' ≤ f → Pc 62 .term f') := hT
  clear hS hT h hf
  rw [run]
  cases hr : run f .first o (L.drop i) with
  | bad p e =>
    rw [hr] at S1
    rw [Rs.bind_bad]
    clear hr
    go_enter Tryd.func43, Tryd.ntmps43
    go_wp2_with (go_at_call 61; refine (S1.out _ (H.out.alloc _)).mono ?_; rintro e w1 ⟨he, g1⟩; unfold gaveUp at he; subst he)
    exact ⟨rfl, rfl, gb_trans ((St.refl H.out).alloc _).gb g1⟩
  | ok l0 r0 =>
    rw [hr] at S1
    rw [Rs.bind_ok]
    clear hr
    generalize hR : run f (.simpleL l0) o r0 = R
    have HR0 : Hid (run f (.simpleL l0) o r0 = R) := hR
    clear hR
    go_enter Tryd.func43, Tryd.ntmps43
    go_wp2_with (go_at_call 61; refine (S1.out _ (H.out.alloc _)).mono ?_; rintro e w1 ⟨c1, i1, rfl, ht1, hi1, s1, nd1⟩)
    have hs1 := s1.size
    simp at hs1
    have LP : Lpsimple w (w1.alloc (.cells c1.cells 31)) b g cap L i o w1.heap.size R f i1 :=
      ⟨l0, c1, f, Nat.le_refl _, by rw [← ht1]; exact HR0.out, by omega, hi1, rowAt_at _ _ _ _ _ rfl, roomNd_new _ _ _ _ rfl, (roomAt_old _ _ _ _ (by omega)).trans ((s1.room (by simp) (by omega) 6).trans (roomNd_new _ _ _ _ (by simp))), (((St.refl H.out).alloc _).next s1).alloc _, nd1.keep (fun x hx hl => ⟨by simpa using hx, by omega⟩) (by simp) (fun x hx hl => ((Below.refl _ _).alloc (Nat.le_refl _) _).block x hl)⟩
    have q1 : w.heap.size < w1.heap.size := by omega
    clear S1 s1 nd1 ht1 HR0
    generalize w1.heap.size = q at LP q1 ⊢
    go_loopg [] (L.length + 1) (fun gf X => ∃ j, Lpsimple w X b g cap L i o q R f j ∧ L.length + 1 ≤ j + gf)
    case atStart => exact ⟨i1, LP, by omega⟩
    case round =>
      obtain ⟨j, ⟨l, c, f1, hf1, hrun, hfu, hij, r3, m3, m2, SJ, nd⟩, hg⟩ := hrel
      have hjl := SJ.rd.il
      obtain ⟨g', rfl⟩ : ∃ g', gk = g' + 1 := ⟨gk - 1, by omega⟩
      obtain ⟨f2, rfl⟩ : ∃ f2, f1 = f2 + 1 := ⟨f1 - 1, by omega⟩
      have hs := SJ.size
      have hql := row_lt r3
      have WA := word_any wr b g cap L j o SJ.rd
      have A : Hid (St w wr b g cap L j o ∧ NdAt wr (fun x => w.heap.size + 1 ≤ x ∧ x ≠ q) c l) := ⟨SJ, nd⟩
      have rowN : ∀ w2, Below wr.heap.size wr w2 → rowAt w2 q = some c.cells ∧ roomAt w2 q 6 = true ∧ roomAt w2 w.heap.size 6 = true ∧ St w w2 b g cap L j o ∧ NdAt w2 (fun x => w.heap.size + 1 ≤ x ∧ x ≠ q) c l := fun w2 hb2 =>
        ⟨(rowAt_below hb2 _ hql).trans r3, (roomAt_below hb2 _ _ hql).trans m3, (roomAt_below hb2 _ _ (by omega)).trans m2, SJ.below hb2, nd.stepP (b := b) (fun x hx => by omega) (gb_of_below hb2 b)⟩
      have HN : Hid (∀ w2, Below wr.heap.size wr w2 → rowAt w2 q = some c.cells ∧ roomAt w2 q 6 = true ∧ roomAt w2 w.heap.size 6 = true ∧ St w w2 b g cap L j o ∧ NdAt w2 (fun x => w.heap.size + 1 ≤ x ∧ x ≠ q) c l) := rowN
      rw [run] at hrun
      clear rowN SJ nd LP
      by_cases hk : rankP (wd (L.drop j)) = 2
      · have hkb : (rankP (wd (L.drop j)) == 2) = true := by simpa using hk
        have hk0 := wd_rank hk (by omega)
        rw [if_pos hk] at hrun
        have TT : Hid (∀ X, RdAt X b g cap L (j + 1) o → Calls Tryd.prog 62 #[.pointer (some ⟨b, 0, none⟩)] X (PostN X b g cap L (j + 1) o (run f2 .term o (L.drop (j + 1))))) := fun X hX => HT.out f2 (by omega) X b g cap L (j + 1) o hX (by show (L.length - (j + 1)) * 40 + 14 ≤ f2; omega)
        rw [List.tail_drop] at hrun
        cases hr2 : run f2 .term o (L.drop (j + 1)) with
        | bad p e =>
          rw [hr2] at TT hrun
          rw [Rs.bind_bad] at hrun
          have HR : Hid (R = .bad p e) := hrun.symm
          clear hr2 hrun hk
          go_wp2_with (first
            | (go_at_call 39; refine WA.mono ?_; rintro e w2 ⟨rfl, hb2⟩; obtain ⟨r2, m2', m22, S2, nd2⟩ := HN.out w2 hb2; have B2 : Hid (St w w2 b g cap L j o) := S2; clear S2 nd2)
            | (go_at_call 44; refine (rank_any _ _).mono ?_; rintro e w' ⟨rfl, hw⟩; obtain rfl := hw.symm; clear hw)
            | (go_at_call 45; refine (binary_bad_term _ b g cap L j o B2.out.rd hk0 c p e TT.out).mono ?_; rintro e w5 ⟨he, g5⟩; unfold gaveUp at he; subst he))
          rw [HR.out]
          exact ⟨rfl, rfl, gb_trans B2.out.gb g5⟩
        | ok y s =>
          rw [hr2] at TT hrun
          rw [Rs.bind_ok] at hrun
          have HR : Hid (run f2 (.simpleL (binN (hd (L.drop j)) l y)) o s = R) := hrun
          clear hr2 hrun hk
          go_wp2_with (first
            | (go_at_call 39; refine WA.mono ?_; rintro e w2 ⟨rfl, hb2⟩; have hs2 := hb2.size; obtain ⟨r2, m2', m22, S2, nd2⟩ := HN.out w2 hb2; have B2 : Hid (St w w2 b g cap L j o ∧ NdAt w2 (fun x => w.heap.size + 1 ≤ x ∧ x ≠ q) c l) := ⟨S2, nd2⟩; clear S2 nd2)
            | (go_at_call 44; refine (rank_any _ _).mono ?_; rintro e w' ⟨rfl, hw⟩; obtain rfl := hw.symm; clear hw)
            | (go_at_call 45; refine (binary_ok_term _ b g cap L j o B2.out.1.rd hk0 c (fun x => w.heap.size + 1 ≤ x ∧ x ≠ q) (fun x hx => by omega) (fun x hx => by omega) l y s B2.out.2 TT.out).mono ?_; rintro e w5 ⟨c5, i5, rfl, ht5, hi5, s5, nd5⟩; have m5 : roomAt w5 q 6 = true := (s5.room (by omega) (by omega) 6).trans m2'; have m52 : roomAt w5 w.heap.size 6 = true := (s5.room (by omega) (by omega) 6).trans m22))
          have LN : Lpsimple w (putRow w5 q c5.cells) b g cap L i o q R f i5 :=
            ⟨binN (hd (L.drop j)) l y, c5, f2, by omega, by rw [← ht5]; exact HR.out, by omega, by omega, rowNd_put _ _ _ m5, room_keep m5 _ rfl, (room_far _ _ _ _ _ (by omega)).trans m52, (B2.out.1.next s5).old bl gl _ (by omega) _, nd5.keep (fun x hx _ => hx) (by rw [size_put]; exact Nat.le_refl _) (fun x hx _ => put_far _ _ _ _ hx.2)⟩
          go_roundg g'
          case measure => omega
          case rel => exact ⟨i5, LN, by omega⟩
      · have hkb : (rankP (wd (L.drop j)) == 2) = false := by simpa using hk
        rw [if_neg hk] at hrun
        have HR : Hid (R = .ok l (L.drop j)) := hrun.symm
        clear hrun hk
        go_wp2_with (first
          | (go_at_call 39; refine WA.mono ?_; rintro e w2 ⟨rfl, hb2⟩; obtain ⟨r2, m2', m22, S2, nd2⟩ := HN.out w2 hb2; have B2 : Hid (St w w2 b g cap L j o ∧ NdAt w2 (fun x => w.heap.size + 1 ≤ x ∧ x ≠ q) c l) := ⟨S2, nd2⟩; clear S2 nd2)
          | (go_at_call 44; refine (rank_any _ _).mono ?_; rintro e w' ⟨rfl, hw⟩; obtain rfl := hw.symm; clear hw))
        rw [HR.out]
        exact ret_cell1 rfl rfl (loadNd_row (rowNd_put _ _ _ m22)) rfl (fin_post B2.out.1 bl gl hij rfl (B2.out.2.keep (fun x hx _ => hx.1) (Nat.le_refl _) (fun _ _ _ => rfl)))
/-- The loop's state. -/
def Lpterm (w X : World) (b g cap : Nat) (L : List Tok) (i o q : Nat) (R : Rs Nd) (f i1 : Nat) : Prop := ∃ l c f1, f1 ≤ f ∧ run f1 (.termL l) o (L.drop i1) = R ∧ (L.length - i1) * 40 + 15 ≤ f1 ∧ i < i1 ∧ rowAt X q = some (Nc.cells c) ∧ roomAt X q 6 = true ∧ roomAt X w.heap.size 6 = true ∧ St w X b g cap L i1 o ∧ NdAt X (fun x => w.heap.size + 1 ≤ x ∧ x ≠ q) c l
set_option maxHeartbeats 4000000 in
set_option maxRecDepth 20000 in
theorem term_step (f : Nat) (hS : Pc 74 .factor f) (hT : ∀ f', f' ≤ f → Pc 74 .factor f') : Pc 62 .term (f + 1) := by
  intro w b g cap L i o h hf
  have bl := h.bl
  have gl := h.gl
  have hil := h.il
  have H : Hid (RdAt w b g cap L i o) := h
  have hf0 : (L.length - i) * 40 + 14 ≤ f + 1 := hf
  have S1 : Hid (∀ X, RdAt X b g cap L i o → Calls Tryd.prog 74 #[.pointer (some ⟨b, 0, none⟩)] X (PostN X b g cap L i o (run f .factor o (L.drop i)))) := fun X hX => hS X b g cap L i o hX (by show (L.length - i) * 40 + 12 ≤ f; omega)
  have HT : Hid (∀ f', f' ≤ f → Pc 74 .factor f') := hT
  clear hS hT h hf
  rw [run]
  cases hr : run f .factor o (L.drop i) with
  | bad p e =>
    rw [hr] at S1
    rw [Rs.bind_bad]
    clear hr
    go_enter Tryd.func62, Tryd.ntmps62
    go_wp2_with (go_at_call 74; refine (S1.out _ (H.out.alloc _)).mono ?_; rintro e w1 ⟨he, g1⟩; unfold gaveUp at he; subst he)
    exact ⟨rfl, rfl, gb_trans ((St.refl H.out).alloc _).gb g1⟩
  | ok l0 r0 =>
    rw [hr] at S1
    rw [Rs.bind_ok]
    clear hr
    generalize hR : run f (.termL l0) o r0 = R
    have HR0 : Hid (run f (.termL l0) o r0 = R) := hR
    clear hR
    go_enter Tryd.func62, Tryd.ntmps62
    go_wp2_with (go_at_call 74; refine (S1.out _ (H.out.alloc _)).mono ?_; rintro e w1 ⟨c1, i1, rfl, ht1, hi1, s1, nd1⟩)
    have hs1 := s1.size
    simp at hs1
    have LP : Lpterm w (w1.alloc (.cells c1.cells 31)) b g cap L i o w1.heap.size R f i1 :=
      ⟨l0, c1, f, Nat.le_refl _, by rw [← ht1]; exact HR0.out, by omega, hi1, rowAt_at _ _ _ _ _ rfl, roomNd_new _ _ _ _ rfl, (roomAt_old _ _ _ _ (by omega)).trans ((s1.room (by simp) (by omega) 6).trans (roomNd_new _ _ _ _ (by simp))), (((St.refl H.out).alloc _).next s1).alloc _, nd1.keep (fun x hx hl => ⟨by simpa using hx, by omega⟩) (by simp) (fun x hx hl => ((Below.refl _ _).alloc (Nat.le_refl _) _).block x hl)⟩
    have q1 : w.heap.size < w1.heap.size := by omega
    clear S1 s1 nd1 ht1 HR0
    generalize w1.heap.size = q at LP q1 ⊢
    go_loopg [] (L.length + 1) (fun gf X => ∃ j, Lpterm w X b g cap L i o q R f j ∧ L.length + 1 ≤ j + gf)
    case atStart => exact ⟨i1, LP, by omega⟩
    case round =>
      obtain ⟨j, ⟨l, c, f1, hf1, hrun, hfu, hij, r3, m3, m2, SJ, nd⟩, hg⟩ := hrel
      have hjl := SJ.rd.il
      obtain ⟨g', rfl⟩ : ∃ g', gk = g' + 1 := ⟨gk - 1, by omega⟩
      obtain ⟨f2, rfl⟩ : ∃ f2, f1 = f2 + 1 := ⟨f1 - 1, by omega⟩
      have hs := SJ.size
      have hql := row_lt r3
      have WA := word_any wr b g cap L j o SJ.rd
      have A : Hid (St w wr b g cap L j o ∧ NdAt wr (fun x => w.heap.size + 1 ≤ x ∧ x ≠ q) c l) := ⟨SJ, nd⟩
      have rowN : ∀ w2, Below wr.heap.size wr w2 → rowAt w2 q = some c.cells ∧ roomAt w2 q 6 = true ∧ roomAt w2 w.heap.size 6 = true ∧ St w w2 b g cap L j o ∧ NdAt w2 (fun x => w.heap.size + 1 ≤ x ∧ x ≠ q) c l := fun w2 hb2 =>
        ⟨(rowAt_below hb2 _ hql).trans r3, (roomAt_below hb2 _ _ hql).trans m3, (roomAt_below hb2 _ _ (by omega)).trans m2, SJ.below hb2, nd.stepP (b := b) (fun x hx => by omega) (gb_of_below hb2 b)⟩
      have HN : Hid (∀ w2, Below wr.heap.size wr w2 → rowAt w2 q = some c.cells ∧ roomAt w2 q 6 = true ∧ roomAt w2 w.heap.size 6 = true ∧ St w w2 b g cap L j o ∧ NdAt w2 (fun x => w.heap.size + 1 ≤ x ∧ x ≠ q) c l) := rowN
      rw [run] at hrun
      clear rowN SJ nd LP
      by_cases hk : rankP (wd (L.drop j)) = 3
      · have hkb : (rankP (wd (L.drop j)) == 3) = true := by simpa using hk
        have hk0 := wd_rank hk (by omega)
        rw [if_pos hk] at hrun
        have TT : Hid (∀ X, RdAt X b g cap L (j + 1) o → Calls Tryd.prog 74 #[.pointer (some ⟨b, 0, none⟩)] X (PostN X b g cap L (j + 1) o (run f2 .factor o (L.drop (j + 1))))) := fun X hX => HT.out f2 (by omega) X b g cap L (j + 1) o hX (by show (L.length - (j + 1)) * 40 + 12 ≤ f2; omega)
        rw [List.tail_drop] at hrun
        cases hr2 : run f2 .factor o (L.drop (j + 1)) with
        | bad p e =>
          rw [hr2] at TT hrun
          rw [Rs.bind_bad] at hrun
          have HR : Hid (R = .bad p e) := hrun.symm
          clear hr2 hrun hk
          go_wp2_with (first
            | (go_at_call 39; refine WA.mono ?_; rintro e w2 ⟨rfl, hb2⟩; obtain ⟨r2, m2', m22, S2, nd2⟩ := HN.out w2 hb2; have B2 : Hid (St w w2 b g cap L j o) := S2; clear S2 nd2)
            | (go_at_call 44; refine (rank_any _ _).mono ?_; rintro e w' ⟨rfl, hw⟩; obtain rfl := hw.symm; clear hw)
            | (go_at_call 45; refine (binary_bad_factor _ b g cap L j o B2.out.rd hk0 c p e TT.out).mono ?_; rintro e w5 ⟨he, g5⟩; unfold gaveUp at he; subst he))
          rw [HR.out]
          exact ⟨rfl, rfl, gb_trans B2.out.gb g5⟩
        | ok y s =>
          rw [hr2] at TT hrun
          rw [Rs.bind_ok] at hrun
          have HR : Hid (run f2 (.termL (binN (hd (L.drop j)) l y)) o s = R) := hrun
          clear hr2 hrun hk
          go_wp2_with (first
            | (go_at_call 39; refine WA.mono ?_; rintro e w2 ⟨rfl, hb2⟩; have hs2 := hb2.size; obtain ⟨r2, m2', m22, S2, nd2⟩ := HN.out w2 hb2; have B2 : Hid (St w w2 b g cap L j o ∧ NdAt w2 (fun x => w.heap.size + 1 ≤ x ∧ x ≠ q) c l) := ⟨S2, nd2⟩; clear S2 nd2)
            | (go_at_call 44; refine (rank_any _ _).mono ?_; rintro e w' ⟨rfl, hw⟩; obtain rfl := hw.symm; clear hw)
            | (go_at_call 45; refine (binary_ok_factor _ b g cap L j o B2.out.1.rd hk0 c (fun x => w.heap.size + 1 ≤ x ∧ x ≠ q) (fun x hx => by omega) (fun x hx => by omega) l y s B2.out.2 TT.out).mono ?_; rintro e w5 ⟨c5, i5, rfl, ht5, hi5, s5, nd5⟩; have m5 : roomAt w5 q 6 = true := (s5.room (by omega) (by omega) 6).trans m2'; have m52 : roomAt w5 w.heap.size 6 = true := (s5.room (by omega) (by omega) 6).trans m22))
          have LN : Lpterm w (putRow w5 q c5.cells) b g cap L i o q R f i5 :=
            ⟨binN (hd (L.drop j)) l y, c5, f2, by omega, by rw [← ht5]; exact HR.out, by omega, by omega, rowNd_put _ _ _ m5, room_keep m5 _ rfl, (room_far _ _ _ _ _ (by omega)).trans m52, (B2.out.1.next s5).old bl gl _ (by omega) _, nd5.keep (fun x hx _ => hx) (by rw [size_put]; exact Nat.le_refl _) (fun x hx _ => put_far _ _ _ _ hx.2)⟩
          go_roundg g'
          case measure => omega
          case rel => exact ⟨i5, LN, by omega⟩
      · have hkb : (rankP (wd (L.drop j)) == 3) = false := by simpa using hk
        rw [if_neg hk] at hrun
        have HR : Hid (R = .ok l (L.drop j)) := hrun.symm
        clear hrun hk
        go_wp2_with (first
          | (go_at_call 39; refine WA.mono ?_; rintro e w2 ⟨rfl, hb2⟩; obtain ⟨r2, m2', m22, S2, nd2⟩ := HN.out w2 hb2; have B2 : Hid (St w w2 b g cap L j o ∧ NdAt w2 (fun x => w.heap.size + 1 ≤ x ∧ x ≠ q) c l) := ⟨S2, nd2⟩; clear S2 nd2)
          | (go_at_call 44; refine (rank_any _ _).mono ?_; rintro e w' ⟨rfl, hw⟩; obtain rfl := hw.symm; clear hw))
        rw [HR.out]
        exact ret_cell1 rfl rfl (loadNd_row (rowNd_put _ _ _ m22)) rfl (fin_post B2.out.1 bl gl hij rfl (B2.out.2.keep (fun x hx _ => hx.1) (Nat.le_refl _) (fun _ _ _ => rfl)))
end Go.Proofs.YtllhcjmabhempaaDoor
