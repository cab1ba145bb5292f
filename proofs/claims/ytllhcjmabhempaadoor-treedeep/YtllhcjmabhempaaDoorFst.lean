/-
  Layer 9: a term that may have a sign ahead; groups.
-/
import Derived.Test.YtllhcjmabhempaaDoorExp
import Derived.Test.YtllhcjmabhempaaDoorUnb
namespace Go.Proofs.YtllhcjmabhempaaDoor
set_option linter.unusedVariables false
set_option linter.unusedSimpArgs false
open Go.ChangeShapes Go.WideShapes Go.ChangeAt Go.RowKit


attribute [local go_sem] fieldTk0 fieldTk3 hmf

/-- What was read by a call in the frame of another one. -/
theorem postN_up {w w1 w2 : World} {b g cap i o : Nat} {L : List Tok} {n : Nd} {t : List Tok} {e : Ending} (S : St w w1 b g cap L i o) (hP : PostN w1 b g cap L i o (.ok n t) e w2) (hw : w.heap.size + 1 ≤ w1.heap.size) :
    ∃ c i', e = .returned (.agg (Nc.cells c)) ∧ t = L.drop i' ∧ i < i' ∧ St w w2 b g cap L i' o ∧ NdAt w2 (fun x => w.heap.size + 1 ≤ x) c n ∧ St w1 w2 b g cap L i' o := by
  obtain ⟨c, i', h1, h2, h3, h4, h5⟩ := hP
  exact ⟨c, i', h1, h2, h3, S.next h4, h5.mono hw, h4⟩
set_option maxHeartbeats 2000000 in
set_option maxRecDepth 20000 in
theorem first_step (f : Nat) (hT : Pc 62 .term f) : Pc 61 .first (f + 1) := by
  intro w b g cap L i o h hf
  have bl := h.bl
  have gl := h.gl
  have hil := h.il
  have hol := h.ol
  have H : Hid (RdAt w b g cap L i o) := h
  have hf0 : (L.length - i) * 40 + 16 ≤ f + 1 := hf
  have WA : Hid (∀ X, RdAt X b g cap L i o → Calls Tryd.prog 39 #[.pointer (some ⟨b, 0, none⟩)] X _) := fun X hX => word_any X b g cap L i o hX
  have T1 : Hid (∀ X, RdAt X b g cap L i o → Calls Tryd.prog 62 #[.pointer (some ⟨b, 0, none⟩)] X (PostN X b g cap L i o (run f .term o (L.drop i)))) := fun X hX => hT X b g cap L i o hX (by show (L.length - i) * 40 + 14 ≤ f; omega)
  have T2 : Hid (∀ X, RdAt X b g cap L (i + 1) (o + 1) → Calls Tryd.prog 62 #[.pointer (some ⟨b, 0, none⟩)] X (PostN X b g cap L (i + 1) (o + 1) (run f .term (o + 1) (L.drop (i + 1))))) := fun X hX => hT X b g cap L (i + 1) (o + 1) hX (by show (L.length - (i + 1)) * 40 + 14 ≤ f; omega)
  have k := rk (wd (L.drop i))
  clear hT h hf
  rw [run]
  by_cases hs : wd (L.drop i) = [43] ∨ wd (L.drop i) = [45]
  · rw [if_pos hs]
    have hk0 : (hd (L.drop i)).k ≠ 0 := wd_kind fun e => by rw [e] at hs; rcases hs with h | h <;> cases h
    have UN : Hid (∀ X, RdAt X b g cap L i o → Calls Tryd.prog 73 #[.pointer (some ⟨b, 0, none⟩), .func (.func 62) #[.pointer (some ⟨b, 0, none⟩)] #[]] X (PostN X b g cap L i o ((beginR o (L.drop i)).bind fun x r => (run f .term (o + 1) r).bind fun y s => .ok (unN x y) s))) := fun X hX => by
      unfold beginR
      by_cases ho : o = 24
      · subst ho
        rw [if_pos rfl, Rs.bind_bad]
        exact unary_deep_term X b g cap L i hX
      · rw [if_neg ho, Rs.bind_ok, List.tail_drop]
        cases hr : run f .term (o + 1) (L.drop (i + 1)) with
        | bad p e => rw [Rs.bind_bad]; exact unary_bad_term X b g cap L i o hX (by omega) hk0 p e (fun Y hY => by have := T2.out Y hY; rwa [hr] at this)
        | ok y s => rw [Rs.bind_ok]; exact unary_ok_term X b g cap L i o hX (by omega) hk0 y s (fun Y hY => by have := T2.out Y hY; rwa [hr] at this)
    generalize ((beginR o (L.drop i)).bind fun x r => (run f .term (o + 1) r).bind fun y s => .ok (unN x y) s) = R at UN ⊢
    clear T1 T2
    have hb1 : (decide (wd (L.drop i) = [43]) = true) ∨ (decide (wd (L.drop i) = [43]) = false ∧ decide (wd (L.drop i) = [45]) = true) := by
      rcases hs with e | e
      · left; rw [e]; rfl
      · right; rw [e]; exact ⟨rfl, rfl⟩
    clear hs hk0
    cases R with
    | bad p er =>
      rcases hb1 with d1 | ⟨d1, d2⟩
      all_goals
        go_enter Tryd.func61, Tryd.ntmps61
        go_wp2_with (first
          | (go_at_call 73; refine (UN.out _ (by first | exact B2.out.rd | exact B1.out.rd)).mono ?_; rintro e w5 ⟨he, g5⟩; unfold gaveUp at he; subst he)
          | (go_at_call 39; have hx := B1; clear hx; refine (WA.out _ B1.out.rd).mono ?_; rintro e w2 ⟨rfl, hb2⟩; have B2 : Hid (St w w2 b g cap L i o) := B1.out.below hb2)
          | (go_at_call 39; refine (WA.out _ (H.out.alloc _)).mono ?_; rintro e w1 ⟨rfl, hb1⟩; have B1 : Hid (St w w1 b g cap L i o) := ((St.refl H.out).alloc _).below hb1))
        first | exact ⟨rfl, rfl, gb_trans B2.out.gb g5⟩ | exact ⟨rfl, rfl, gb_trans B1.out.gb g5⟩
    | ok n t =>
      rcases hb1 with d1 | ⟨d1, d2⟩
      all_goals
        go_enter Tryd.func61, Tryd.ntmps61
        go_wp2_with (first
          | (go_at_call 73; have hx := B2; clear hx; refine (UN.out _ B2.out.rd).mono ?_; intro e w5 hP; obtain ⟨c5, i5, rfl, ht5, hi5, S5, nd5, s5⟩ := postN_up B2.out hP (by omega); have m5 : roomAt w5 w.heap.size 6 = true := (s5.room (by omega) (by omega) 6).trans m2)
          | (go_at_call 73; refine (UN.out _ B1.out.rd).mono ?_; intro e w5 hP; obtain ⟨c5, i5, rfl, ht5, hi5, S5, nd5, s5⟩ := postN_up B1.out hP (by omega); have m5 : roomAt w5 w.heap.size 6 = true := (s5.room (by omega) (by omega) 6).trans m1)
          | (go_at_call 39; have hx := B1; clear hx; refine (WA.out _ B1.out.rd).mono ?_; rintro e w2 ⟨rfl, hb2⟩; have B2 : Hid (St w w2 b g cap L i o) := B1.out.below hb2; have hs2 := hb2.size; have m2 : roomAt w2 w.heap.size 6 = true := (roomAt_below hb2 _ _ (by omega)).trans m1)
          | (go_at_call 39; refine (WA.out _ (H.out.alloc _)).mono ?_; rintro e w1 ⟨rfl, hb1⟩; have B1 : Hid (St w w1 b g cap L i o) := ((St.refl H.out).alloc _).below hb1; have hs1 := hb1.size; simp at hs1; have m1 : roomAt w1 w.heap.size 6 = true := (roomAt_below hb1 _ _ (by simp)).trans (roomNd_new _ _ _ _ (by simp))))
        exact ret_cell1 rfl rfl (loadNd_row (rowNd_put _ _ _ m5)) rfl (fin_post S5 bl gl hi5 ht5 nd5)
  · rw [if_neg hs]
    have d1 : decide (wd (L.drop i) = [43]) = false := by simp; exact fun e => hs (.inl e)
    have d2 : decide (wd (L.drop i) = [45]) = false := by simp; exact fun e => hs (.inr e)
    clear hs T2
    generalize run f .term o (L.drop i) = R at T1 ⊢
    cases R with
    | bad p er =>
      go_enter Tryd.func61, Tryd.ntmps61
      go_wp2_with (first
        | (go_at_call 62; refine (T1.out _ B2.out.rd).mono ?_; rintro e w5 ⟨he, g5⟩; unfold gaveUp at he; subst he)
        | (go_at_call 39; have hx := B1; clear hx; refine (WA.out _ B1.out.rd).mono ?_; rintro e w2 ⟨rfl, hb2⟩; have B2 : Hid (St w w2 b g cap L i o) := B1.out.below hb2)
        | (go_at_call 39; refine (WA.out _ (H.out.alloc _)).mono ?_; rintro e w1 ⟨rfl, hb1⟩; have B1 : Hid (St w w1 b g cap L i o) := ((St.refl H.out).alloc _).below hb1))
      exact ⟨rfl, rfl, gb_trans B2.out.gb g5⟩
    | ok n t =>
      go_enter Tryd.func61, Tryd.ntmps61
      go_wp2_with (first
        | (go_at_call 62; refine (T1.out _ B2.out.rd).mono ?_; intro e w5 hP; obtain ⟨c5, i5, rfl, ht5, hi5, S5, nd5, s5⟩ := postN_up B2.out hP (by omega); have m5 : roomAt w5 w.heap.size 6 = true := (s5.room (by omega) (by omega) 6).trans m2)
        | (go_at_call 39; have hx := B1; clear hx; refine (WA.out _ B1.out.rd).mono ?_; rintro e w2 ⟨rfl, hb2⟩; have B2 : Hid (St w w2 b g cap L i o) := B1.out.below hb2; have hs2 := hb2.size; have m2 : roomAt w2 w.heap.size 6 = true := (roomAt_below hb2 _ _ (by omega)).trans m1)
        | (go_at_call 39; refine (WA.out _ (H.out.alloc _)).mono ?_; rintro e w1 ⟨rfl, hb1⟩; have B1 : Hid (St w w1 b g cap L i o) := ((St.refl H.out).alloc _).below hb1; have hs1 := hb1.size; simp at hs1; have m1 : roomAt w1 w.heap.size 6 = true := (roomAt_below hb1 _ _ (by simp)).trans (roomNd_new _ _ _ _ (by simp))))
      exact ret_cell1 rfl rfl (loadNd_row (rowNd_put _ _ _ m5)) rfl (fin_post S5 bl gl hi5 ht5 nd5)
end Go.Proofs.YtllhcjmabhempaaDoor
