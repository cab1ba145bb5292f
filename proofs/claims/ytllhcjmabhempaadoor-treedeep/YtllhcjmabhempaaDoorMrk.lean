/-
  Layer 9: the program's expressions by their own fuel; names with a mark; functions that only ask another one.
-/
import Derived.Test.YtllhcjmabhempaaDoorMpl
import Derived.Test.YtllhcjmabhempaaDoorFac
namespace Go.Proofs.YtllhcjmabhempaaDoor
set_option linter.unusedVariables false
set_option linter.unusedSimpArgs false
open Go.ChangeShapes Go.WideShapes Go.ChangeAt Go.RowKit


attribute [local go_sem] fieldTk0 fieldTk3 fieldTk1 hmf

theorem expression_any (w : World) (b g cap : Nat) (L : List Tok) (i o : Nat) (h : RdAt w b g cap L i o) : Calls Tryd.prog 16 #[.pointer (some ⟨b, 0, none⟩)] w (PostN w b g cap L i o (exprR o (L.drop i))) :=
  (exprs_all _ _ (Nat.le_refl _)).1 w b g cap L i o h (by rw [List.length_drop]; exact Nat.le_refl _)
theorem designator_any (w : World) (b g cap : Nat) (L : List Tok) (i o : Nat) (h : RdAt w b g cap L i o) : Calls Tryd.prog 81 #[.pointer (some ⟨b, 0, none⟩)] w (PostN w b g cap L i o (desigR o (L.drop i))) :=
  (exprs_all _ _ (Nat.le_refl _)).2.2.2.2.2.1 w b g cap L i o h (by rw [List.length_drop]; exact Nat.le_refl _)
theorem named_any (w : World) (b g cap : Nat) (L : List Tok) (i o : Nat) (h : RdAt w b g cap L i o) (k : Int) : Calls Tryd.prog 31 #[.pointer (some ⟨b, 0, none⟩), .int .i64 k] w (PostN w b g cap L i o (namedR k (L.drop i))) := by
  unfold namedR nameR
  by_cases hk : (hd (L.drop i)).k = 1
  · rw [if_pos hk, Rs.bind_ok, List.tail_drop]; exact named_yes w b g cap L i o h hk k
  · rw [if_neg hk, Rs.bind_bad]; exact named_no w b g cap L i o h hk k
/-- A leaf's cells. -/
theorem leaf_cells {w : World} {P : Nat → Prop} {c : Nc} {k n : Int} {t : Bs} {f : Bool} {p : Nat} (h : NdAt w P c (.mk k t n f [] p)) : ∃ a m, c = ⟨k, bs t, n, f, a, 0, m, (p : Int)⟩ := by cases h; exact ⟨_, _, rfl⟩
set_option maxHeartbeats 2000000 in
set_option maxRecDepth 20000 in
theorem marked_any (w : World) (b g cap : Nat) (L : List Tok) (i o : Nat) (h : RdAt w b g cap L i o) (k : Int) : Calls Tryd.prog 54 #[.pointer (some ⟨b, 0, none⟩), .int .i64 k] w (PostN w b g cap L i o (markedR k (L.drop i))) := by
  have bl := h.bl
  have gl := h.gl
  have H : Hid (RdAt w b g cap L i o) := h
  unfold markedR nameR
  by_cases hk : (hd (L.drop i)).k = 1
  · rw [if_pos hk, Rs.bind_ok, List.tail_drop]
    have NA : Hid (∀ X, RdAt X b g cap L i o → Calls Tryd.prog 31 #[.pointer (some ⟨b, 0, none⟩), .int .i64 k] X (PostN X b g cap L i o (.ok (.mk k (hd (L.drop i)).t 0 false [] (hd (L.drop i)).p) (L.drop (i + 1))))) := fun X hX => named_yes X b g cap L i o hX hk k
    generalize hd (L.drop i) = tk at NA ⊢
    clear h hk
    by_cases hw : wd (L.drop (i + 1)) = [42]
    · rw [if_pos hw, List.tail_drop]
      have FO : Hid (∀ X i', L.drop (i + 1) = L.drop i' → RdAt X b g cap L i' o → Calls Tryd.prog 32 #[.pointer (some ⟨b, 0, none⟩), .string (bs [42])] X _) := fun X i' e hX => found_yes X b g cap L i' o hX [42] (by simp) (by rw [← e]; exact hw)
      clear hw
      go_enter Tryd.func54, Tryd.ntmps54
      go_wp2_with (first
        | (go_at_call 32; refine (FO.out _ i1 ht1 (B1.out.alloc _).rd).mono ?_; rintro e w2 ⟨rfl, s2⟩; have hs2 := s2.size; simp at hs2; have B2 : Hid (St w w2 b g cap L (i1 + 1) o) := (B1.out.alloc _).next s2; have r2 : rowAt w2 w1.heap.size = some (⟨k, bs tk.t, 0, false, a1, 0, m1, (tk.p : Int)⟩ : Nc).cells := (s2.row (by simp) (by omega)).trans (rowAt_at _ _ _ _ _ rfl); have q2 : roomAt w2 w1.heap.size 6 = true := (s2.room (by simp) (by omega) 6).trans (roomNd_new _ _ _ _ rfl); have m2 : roomAt w2 w.heap.size 6 = true := (s2.room (by simp; omega) (by omega) 6).trans ((roomAt_old _ _ _ _ (by omega)).trans q1); have c2 := rowAt_cell r2; have f2 : w2.frozen? ⟨w1.heap.size, 3, none⟩ = false := (by have := (room_there q2 3 (by omega)).2; rwa [Nat.zero_add] at this); have r3 : rowAt (w2.setCell ⟨w1.heap.size, 3, none⟩ (.bool true)) w1.heap.size = some (⟨k, bs tk.t, 0, true, a1, 0, m1, (tk.p : Int)⟩ : Nc).cells := rowAt_set _ _ _ _ _ r2; have m3 : roomAt (w2.setCell ⟨w1.heap.size, 3, none⟩ (.bool true)) w.heap.size 6 = true := (roomAt_far _ _ _ _ _ (by show w.heap.size ≠ w1.heap.size; omega)).trans m2)
        | (go_at_call 31; refine (NA.out _ (H.out.alloc _)).mono ?_; intro e w1 hP; obtain ⟨c1, i1, rfl, ht1, hi1, S1, nd1, s1⟩ := postN_up ((St.refl H.out).alloc _) hP (by simp); obtain ⟨a1, m1, rfl⟩ := leaf_cells nd1; have hs1 := s1.size; simp at hs1; have B1 : Hid (St w w1 b g cap L i1 o) := S1; have q1 : roomAt w1 w.heap.size 6 = true := (s1.room (by simp) (by omega) 6).trans (roomNd_new _ _ _ _ (by simp))))
      exact ret_cell1 rfl rfl (loadNd_row (rowNd_put _ _ _ m3)) rfl ⟨_, _, rfl, (by rw [← List.tail_drop, ht1, List.tail_drop]), by omega, (B2.out.far bl gl _ 3 (by omega) _).old bl gl _ (Nat.le_refl _) _, NdAt.mk k tk.t 0 true [] tk.p a1 m1 (KidsAt.nil _ _)⟩
    · rw [if_neg hw]
      have FO : Hid (∀ X i', L.drop (i + 1) = L.drop i' → RdAt X b g cap L i' o → Calls Tryd.prog 32 #[.pointer (some ⟨b, 0, none⟩), .string (bs [42])] X _) := fun X i' e hX => found_no X b g cap L i' o hX [42] (by rw [← e]; exact hw)
      clear hw
      go_enter Tryd.func54, Tryd.ntmps54
      go_wp2_with (first
        | (go_at_call 32; refine (FO.out _ i1 ht1 (B1.out.alloc _).rd).mono ?_; rintro e w2 ⟨rfl, hb2⟩; have s2 := (St.refl (B1.out.alloc (.cells (⟨k, bs tk.t, 0, false, a1, 0, m1, (tk.p : Int)⟩ : Nc).cells 31)).rd).below hb2; have hs2 := s2.size; simp at hs2; have B2 : Hid (St w w2 b g cap L i1 o) := (B1.out.alloc _).next s2; have r2 : rowAt w2 w1.heap.size = some (⟨k, bs tk.t, 0, false, a1, 0, m1, (tk.p : Int)⟩ : Nc).cells := (s2.row (by simp) (by omega)).trans (rowAt_at _ _ _ _ _ rfl); have q2 : roomAt w2 w1.heap.size 6 = true := (s2.room (by simp) (by omega) 6).trans (roomNd_new _ _ _ _ rfl); have m2 : roomAt w2 w.heap.size 6 = true := (s2.room (by simp; omega) (by omega) 6).trans ((roomAt_old _ _ _ _ (by omega)).trans q1); have c2 := rowAt_cell r2; have f2 : w2.frozen? ⟨w1.heap.size, 3, none⟩ = false := (by have := (room_there q2 3 (by omega)).2; rwa [Nat.zero_add] at this); have r3 : rowAt (w2.setCell ⟨w1.heap.size, 3, none⟩ (.bool false)) w1.heap.size = some (⟨k, bs tk.t, 0, false, a1, 0, m1, (tk.p : Int)⟩ : Nc).cells := rowAt_set _ _ _ _ _ r2; have m3 : roomAt (w2.setCell ⟨w1.heap.size, 3, none⟩ (.bool false)) w.heap.size 6 = true := (roomAt_far _ _ _ _ _ (by show w.heap.size ≠ w1.heap.size; omega)).trans m2)
        | (go_at_call 31; refine (NA.out _ (H.out.alloc _)).mono ?_; intro e w1 hP; obtain ⟨c1, i1, rfl, ht1, hi1, S1, nd1, s1⟩ := postN_up ((St.refl H.out).alloc _) hP (by simp); obtain ⟨a1, m1, rfl⟩ := leaf_cells nd1; have hs1 := s1.size; simp at hs1; have B1 : Hid (St w w1 b g cap L i1 o) := S1; have q1 : roomAt w1 w.heap.size 6 = true := (s1.room (by simp) (by omega) 6).trans (roomNd_new _ _ _ _ (by simp))))
      exact ret_cell1 rfl rfl (loadNd_row (rowNd_put _ _ _ m3)) rfl ⟨_, _, rfl, ht1, by omega, (B2.out.far bl gl _ 3 (by omega) _).old bl gl _ (Nat.le_refl _) _, NdAt.mk k tk.t 0 false [] tk.p a1 m1 (KidsAt.nil _ _)⟩
  · rw [if_neg hk, Rs.bind_bad]
    have NA : Hid (∀ X, RdAt X b g cap L i o → Calls Tryd.prog 31 #[.pointer (some ⟨b, 0, none⟩), .int .i64 k] X (PostN X b g cap L i o (.bad (hd (L.drop i)).p 90))) := fun X hX => named_no X b g cap L i o hX hk k
    generalize (hd (L.drop i)).p = q at NA ⊢
    clear h hk
    go_enter Tryd.func54, Tryd.ntmps54
    go_wp2_with (go_at_call 31; refine (NA.out _ (H.out.alloc _)).mono ?_; rintro e w2 ⟨he, g2⟩; unfold gaveUp at he; subst he)
    exact ⟨rfl, rfl, gb_trans ((St.refl H.out).alloc _).gb g2⟩
set_option maxHeartbeats 2000000 in
set_option maxRecDepth 20000 in
theorem markedIdent_any (w : World) (b g cap : Nat) (L : List Tok) (i o : Nat) (h : RdAt w b g cap L i o) : Calls Tryd.prog 57 #[.pointer (some ⟨b, 0, none⟩)] w (PostN w b g cap L i o (markedR 9 (L.drop i))) := by
  have bl := h.bl
  have gl := h.gl
  have H : Hid (RdAt w b g cap L i o) := h
  have C : Hid (∀ X, RdAt X b g cap L i o → Calls Tryd.prog 54 #[.pointer (some ⟨b, 0, none⟩), .int .i64 9] X (PostN X b g cap L i o (markedR 9 (L.drop i)))) := fun X hX => marked_any X b g cap L i o hX 9
  generalize markedR 9 (L.drop i) = R at C ⊢
  clear h
  cases R with
  | bad p er =>
    go_enter Tryd.func57, Tryd.ntmps57
    go_wp2_with (go_at_call 54; refine (C.out _ (H.out.alloc _)).mono ?_; rintro e w2 ⟨he, g2⟩; unfold gaveUp at he; subst he)
    exact ⟨rfl, rfl, gb_trans ((St.refl H.out).alloc _).gb g2⟩
  | ok n t =>
    go_enter Tryd.func57, Tryd.ntmps57
    go_wp2_with (go_at_call 54; refine (C.out _ (H.out.alloc _)).mono ?_; intro e w5 hP; obtain ⟨c5, i5, rfl, ht5, hi5, S5, nd5, s5⟩ := postN_up ((St.refl H.out).alloc _) hP (by simp); have m5 : roomAt w5 w.heap.size 6 = true := (s5.room (by simp) (by omega) 6).trans (roomNd_new _ _ _ _ (by simp)))
    exact ret_cell1 rfl rfl (loadNd_row (rowNd_put _ _ _ m5)) rfl (fin_post S5 bl gl hi5 ht5 nd5)
set_option maxHeartbeats 2000000 in
set_option maxRecDepth 20000 in
theorem bareIdent_any (w : World) (b g cap : Nat) (L : List Tok) (i o : Nat) (h : RdAt w b g cap L i o) : Calls Tryd.prog 79 #[.pointer (some ⟨b, 0, none⟩)] w (PostN w b g cap L i o (namedR 9 (L.drop i))) := by
  have bl := h.bl
  have gl := h.gl
  have H : Hid (RdAt w b g cap L i o) := h
  have C : Hid (∀ X, RdAt X b g cap L i o → Calls Tryd.prog 31 #[.pointer (some ⟨b, 0, none⟩), .int .i64 9] X (PostN X b g cap L i o (namedR 9 (L.drop i)))) := fun X hX => named_any X b g cap L i o hX 9
  generalize namedR 9 (L.drop i) = R at C ⊢
  clear h
  cases R with
  | bad p er =>
    go_enter Tryd.func79, Tryd.ntmps79
    go_wp2_with (go_at_call 31; refine (C.out _ (H.out.alloc _)).mono ?_; rintro e w2 ⟨he, g2⟩; unfold gaveUp at he; subst he)
    exact ⟨rfl, rfl, gb_trans ((St.refl H.out).alloc _).gb g2⟩
  | ok n t =>
    go_enter Tryd.func79, Tryd.ntmps79
    go_wp2_with (go_at_call 31; refine (C.out _ (H.out.alloc _)).mono ?_; intro e w5 hP; obtain ⟨c5, i5, rfl, ht5, hi5, S5, nd5, s5⟩ := postN_up ((St.refl H.out).alloc _) hP (by simp); have m5 : roomAt w5 w.heap.size 6 = true := (s5.room (by simp) (by omega) 6).trans (roomNd_new _ _ _ _ (by simp)))
    exact ret_cell1 rfl rfl (loadNd_row (rowNd_put _ _ _ m5)) rfl (fin_post S5 bl gl hi5 ht5 nd5)
set_option maxHeartbeats 2000000 in
set_option maxRecDepth 20000 in
theorem typeName_any (w : World) (b g cap : Nat) (L : List Tok) (i o : Nat) (h : RdAt w b g cap L i o) : Calls Tryd.prog 67 #[.pointer (some ⟨b, 0, none⟩)] w (PostN w b g cap L i o (namedR 10 (L.drop i))) := by
  have bl := h.bl
  have gl := h.gl
  have H : Hid (RdAt w b g cap L i o) := h
  have C : Hid (∀ X, RdAt X b g cap L i o → Calls Tryd.prog 31 #[.pointer (some ⟨b, 0, none⟩), .int .i64 10] X (PostN X b g cap L i o (namedR 10 (L.drop i)))) := fun X hX => named_any X b g cap L i o hX 10
  generalize namedR 10 (L.drop i) = R at C ⊢
  clear h
  cases R with
  | bad p er =>
    go_enter Tryd.func67, Tryd.ntmps67
    go_wp2_with (go_at_call 31; refine (C.out _ (H.out.alloc _)).mono ?_; rintro e w2 ⟨he, g2⟩; unfold gaveUp at he; subst he)
    exact ⟨rfl, rfl, gb_trans ((St.refl H.out).alloc _).gb g2⟩
  | ok n t =>
    go_enter Tryd.func67, Tryd.ntmps67
    go_wp2_with (go_at_call 31; refine (C.out _ (H.out.alloc _)).mono ?_; intro e w5 hP; obtain ⟨c5, i5, rfl, ht5, hi5, S5, nd5, s5⟩ := postN_up ((St.refl H.out).alloc _) hP (by simp); have m5 : roomAt w5 w.heap.size 6 = true := (s5.room (by simp) (by omega) 6).trans (roomNd_new _ _ _ _ (by simp)))
    exact ret_cell1 rfl rfl (loadNd_row (rowNd_put _ _ _ m5)) rfl (fin_post S5 bl gl hi5 ht5 nd5)
end Go.Proofs.YtllhcjmabhempaaDoor
