/-
  Layer 9: a parameter's type.
-/
import Derived.Test.YtllhcjmabhempaaDoorRw2
namespace Go.Proofs.YtllhcjmabhempaaDoor
set_option linter.unusedVariables false
set_option linter.unusedSimpArgs false
open Go.ChangeShapes Go.WideShapes Go.ChangeAt Go.RowKit


attribute [local go_sem] fieldTk0 fieldTk3 hmf
attribute [local go_sem ↓] bslNd_seal
attribute [local go_sem] bslNd1_run bslNd2_run

theorem must_rest {s : Bs} {L : List Tok} {i : Nat} {x : Tok} {r : List Tok} (h : mustR s (L.drop i) = .ok x r) : r = L.drop (i + 1) := by
  unfold mustR at h
  split at h
  · injection h with _ e; rw [← e, List.tail_drop]
  · cases h
set_option maxHeartbeats 4000000 in
set_option maxRecDepth 20000 in
theorem ptype_any (w : World) (b g cap : Nat) (L : List Tok) (i o : Nat) (h : RdAt w b g cap L i o) : Calls Tryd.prog 80 #[.pointer (some ⟨b, 0, none⟩)] w (PostN w b g cap L i o (ptypeR (L.drop i))) := by
  have bl := h.bl
  have gl := h.gl
  have H : Hid (RdAt w b g cap L i o) := h
  have WA : Hid (∀ X, RdAt X b g cap L i o → Calls Tryd.prog 39 #[.pointer (some ⟨b, 0, none⟩)] X _) := fun X hX => word_any X b g cap L i o hX
  have TN : Hid (∀ X j, RdAt X b g cap L j o → Calls Tryd.prog 67 #[.pointer (some ⟨b, 0, none⟩)] X (PostN X b g cap L j o (namedR 10 (L.drop j)))) := fun X j hX => typeName_any X b g cap L j o hX
  have k := rk (wd (L.drop i))
  unfold ptypeR
  by_cases hw : wd (L.drop i) = [65, 82, 82, 65, 89]
  · rw [if_pos hw, List.tail_drop]
    have hk0 : (hd (L.drop i)).k ≠ 0 := wd_kind (by rw [hw]; decide)
    have PA : Hid (∀ X, RdAt X b g cap L i o → Calls Tryd.prog 52 #[.pointer (some ⟨b, 0, none⟩)] X _) := fun X hX => pass_any X b g cap L i o hX hk0
    have MU : Hid (∀ X, RdAt X b g cap L (i + 1) o → Calls Tryd.prog 30 #[.pointer (some ⟨b, 0, none⟩), .string (bs [79, 70])] X (PostT X b g cap L (i + 1) o (mustR [79, 70] (L.drop (i + 1))))) := fun X hX => must_any X b g cap L (i + 1) o hX _ (by simp)
    have d1 : decide (wd (L.drop i) = [65, 82, 82, 65, 89]) = true := by simpa using hw
    clear h hw hk0
    generalize hd (L.drop i) = tk at PA ⊢
    cases hm : mustR [79, 70] (L.drop (i + 1)) with
    | bad p er =>
      rw [hm] at MU
      rw [Rs.bind_bad]
      clear TN hm
      go_enter Tryd.func80, Tryd.ntmps80
      go_wp2_with (first
        | (go_at_call 39; refine (WA.out _ (H.out.alloc _)).mono ?_; rintro e w1 ⟨rfl, hb1⟩; have B1 : Hid (St w w1 b g cap L i o) := ((St.refl H.out).alloc _).below hb1)
        | (go_at_call 52; refine (PA.out _ B1.out.rd).mono ?_; rintro e w2 ⟨rfl, s2⟩; have B2 : Hid (St w w2 b g cap L (i + 1) o) := B1.out.next s2)
        | (go_at_call 30; refine (MU.out _ B2.out.rd).mono ?_; rintro e w3 ⟨he, g3⟩; unfold gaveUp at he; subst he))
      exact ⟨rfl, rfl, gb_trans B2.out.gb g3⟩
    | ok y r =>
      obtain rfl := must_rest hm
      rw [hm] at MU
      rw [Rs.bind_ok]
      have T2 : Hid (∀ X, RdAt X b g cap L (i + 1 + 1) o → Calls Tryd.prog 67 #[.pointer (some ⟨b, 0, none⟩)] X (PostN X b g cap L (i + 1 + 1) o (namedR 10 (L.drop (i + 1 + 1))))) := fun X hX => TN.out X _ hX
      clear TN hm
      generalize namedR 10 (L.drop (i + 1 + 1)) = R at T2 ⊢
      cases R with
      | bad p er =>
        rw [Rs.bind_bad]
        go_enter Tryd.func80, Tryd.ntmps80
        go_wp2_with (first
          | (go_at_call 39; refine (WA.out _ (H.out.alloc _)).mono ?_; rintro e w1 ⟨rfl, hb1⟩; have B1 : Hid (St w w1 b g cap L i o) := ((St.refl H.out).alloc _).below hb1)
          | (go_at_call 52; refine (PA.out _ B1.out.rd).mono ?_; rintro e w2 ⟨rfl, s2⟩; have B2 : Hid (St w w2 b g cap L (i + 1) o) := B1.out.next s2)
          | (go_at_call 30; refine (MU.out _ B2.out.rd).mono ?_; rintro e w3 ⟨rfl, _, s3⟩; have B3 : Hid (St w w3 b g cap L (i + 1 + 1) o) := B2.out.next s3)
          | (go_at_call 67; refine (T2.out _ B3.out.rd).mono ?_; rintro e w4 ⟨he, g4⟩; unfold gaveUp at he; subst he))
        exact ⟨rfl, rfl, gb_trans B3.out.gb g4⟩
      | ok n t =>
        rw [Rs.bind_ok]
        go_enter Tryd.func80, Tryd.ntmps80
        go_wp2_with (first
          | (go_at_call 39; refine (WA.out _ (H.out.alloc _)).mono ?_; rintro e w1 ⟨rfl, hb1⟩; have hs1 := hb1.size; simp at hs1; have B1 : Hid (St w w1 b g cap L i o) := ((St.refl H.out).alloc _).below hb1; have m1 : roomAt w1 w.heap.size 6 = true := (roomAt_below hb1 _ _ (by simp)).trans (roomNd_new _ _ _ _ (by simp)))
          | (go_at_call 52; refine (PA.out _ B1.out.rd).mono ?_; rintro e w2 ⟨rfl, s2⟩; have hs2 := s2.size; have B2 : Hid (St w w2 b g cap L (i + 1) o) := B1.out.next s2; have m2 : roomAt w2 w.heap.size 6 = true := (s2.room (by omega) (by omega) 6).trans m1)
          | (go_at_call 30; refine (MU.out _ B2.out.rd).mono ?_; rintro e w3 ⟨rfl, _, s3⟩; have hs3 := s3.size; have B3 : Hid (St w w3 b g cap L (i + 1 + 1) o) := B2.out.next s3; have m3 : roomAt w3 w.heap.size 6 = true := (s3.room (by omega) (by omega) 6).trans m2)
          | (go_at_call 67; refine (T2.out _ B3.out.rd).mono ?_; intro e w4 hP; obtain ⟨c4, i4, rfl, ht4, hi4, S4, nd4, s4⟩ := postN_up B3.out hP (by omega); have hs4 := s4.size; have m4 : roomAt w4 w.heap.size 6 = true := (s4.room (by omega) (by omega) 6).trans m3)
          | (go_at_call 59; refine (node_any _ _ _ _ _ _).mono ?_; rintro e w6 ⟨rfl, hb6⟩; have hs6 := hb6.size; simp at hs6; have m6 : roomAt w6 w.heap.size 6 = true := (roomAt_below hb6 _ _ (by simp; omega)).trans ((roomAt_old _ _ _ _ (by omega)).trans m4)))
        have mb : w6.heap[w4.heap.size]? = some (.cells c4.cells 31 (0, 0)) := (hb6.block _ (by simp)).trans (heap_new' _ _ rfl)
        have S6 : St w w6 b g cap L i4 o := (S4.alloc _).below hb6
        have n1 : NdAt w6 (fun x => w.heap.size + 1 ≤ x) c4 n := NdAt.stepP (b := b) nd4 (fun x hx => by omega) (gb_trans (gb_of_below (by go_grown) b) (gb_of_below hb6 b))
        exact ret_cell1 rfl rfl (loadNd_row (rowNd_put _ _ _ m6)) rfl (fin_post (i := i) S6 bl gl (by omega) ht4 (one_made 12 [] tk.p (by omega) mb n1))
  · rw [if_neg hw]
    have d1 : decide (wd (L.drop i) = [65, 82, 82, 65, 89]) = false := by simpa using hw
    have T1 : Hid (∀ X, RdAt X b g cap L i o → Calls Tryd.prog 67 #[.pointer (some ⟨b, 0, none⟩)] X (PostN X b g cap L i o (namedR 10 (L.drop i)))) := fun X hX => TN.out X _ hX
    clear h hw TN
    generalize namedR 10 (L.drop i) = R at T1 ⊢
    cases R with
    | bad p er =>
      go_enter Tryd.func80, Tryd.ntmps80
      go_wp2_with (first
        | (go_at_call 39; refine (WA.out _ (H.out.alloc _)).mono ?_; rintro e w1 ⟨rfl, hb1⟩; have B1 : Hid (St w w1 b g cap L i o) := ((St.refl H.out).alloc _).below hb1)
        | (go_at_call 67; refine (T1.out _ B1.out.rd).mono ?_; rintro e w4 ⟨he, g4⟩; unfold gaveUp at he; subst he))
      exact ⟨rfl, rfl, gb_trans B1.out.gb g4⟩
    | ok n t =>
      go_enter Tryd.func80, Tryd.ntmps80
      go_wp2_with (first
        | (go_at_call 39; refine (WA.out _ (H.out.alloc _)).mono ?_; rintro e w1 ⟨rfl, hb1⟩; have hs1 := hb1.size; simp at hs1; have B1 : Hid (St w w1 b g cap L i o) := ((St.refl H.out).alloc _).below hb1; have m1 : roomAt w1 w.heap.size 6 = true := (roomAt_below hb1 _ _ (by simp)).trans (roomNd_new _ _ _ _ (by simp)))
        | (go_at_call 67; refine (T1.out _ B1.out.rd).mono ?_; intro e w4 hP; obtain ⟨c4, i4, rfl, ht4, hi4, S4, nd4, s4⟩ := postN_up B1.out hP (by omega); have hs4 := s4.size; have m4 : roomAt w4 w.heap.size 6 = true := (s4.room (by omega) (by omega) 6).trans m1))
      exact ret_cell1 rfl rfl (loadNd_row (rowNd_put _ _ _ m4)) rfl (fin_post S4 bl gl hi4 ht4 nd4)
end Go.Proofs.YtllhcjmabhempaaDoor
