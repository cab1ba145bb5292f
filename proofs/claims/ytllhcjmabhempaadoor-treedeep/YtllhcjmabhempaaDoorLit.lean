/-
  Layer 9: ranks; literals; names as nodes.
-/
import Derived.Test.YtllhcjmabhempaaDoorNds
import Derived.Deep.Light
namespace Go.Proofs.YtllhcjmabhempaaDoor
set_option linter.unusedVariables false
set_option linter.unusedSimpArgs false
open Go.ChangeShapes Go.WideShapes Go.ChangeAt Go.RowKit


attribute [local go_sem] fieldTk0 fieldTk3

set_option maxHeartbeats 1000000 in
set_option maxRecDepth 20000 in
theorem literal_any (w : World) (b g cap : Nat) (L : List Tok) (i o : Nat) (h : RdAt w b g cap L i o) (hk : (hd (L.drop i)).k ≠ 0) (k : Int) (t : Bs) (n : Int) :
    Calls Tryd.prog 82 #[.pointer (some ⟨b, 0, none⟩), .agg (⟨k, bs t, n, false, none, 0, 0, 0⟩ : Nc).cells] w (PostN w b g cap L i o (.ok (.mk k t n false [] (hd (L.drop i)).p) (L.drop (i + 1)))) := by
  have PA : Hid (∀ X, RdAt X b g cap L i o → Calls Tryd.prog 52 #[.pointer (some ⟨b, 0, none⟩)] X _) := fun X hX => pass_any X b g cap L i o hX hk
  have H : Hid (RdAt w b g cap L i o) := h
  have bl := h.bl
  have gl := h.gl
  clear h hk
  generalize hd (L.drop i) = tk at PA ⊢
  go_enter Tryd.func82, Tryd.ntmps82
  go_wp2_with (go_at_call 52; refine (PA.out _ ((H.out.alloc _).alloc _)).mono ?_; rintro e w2 ⟨rfl, s2⟩; have S2 : Hid (St w w2 b g cap L (i + 1) o) := (((St.refl H.out).alloc _).alloc _).next s2; have hs2 := s2.size; simp at hs2; have r3 : rowAt w2 w.heap.size = some (⟨k, bs t, n, false, none, 0, 0, 0⟩ : Nc).cells := (s2.row (by simp; omega) (by omega)).trans ((rowAt_old _ _ _ (by simp)).trans (rowAt_at _ _ _ _ _ rfl)); have m3 : roomAt w2 w.heap.size 6 = true := (s2.room (by simp; omega) (by omega) 6).trans ((roomAt_old _ _ _ _ (by simp)).trans (roomNd_new _ _ _ _ rfl)); have m4 : roomAt w2 (w.heap.size + 1) 6 = true := (s2.room (by simp) (by omega) 6).trans (roomNd_new _ _ _ _ (by simp)); have c3 := rowAt_cell r3; have f3 : w2.frozen? ⟨w.heap.size, 5, none⟩ = false := (by have := (room_there m3 5 (by omega)).2; rwa [Nat.zero_add] at this); have r5 : rowAt (w2.setCell ⟨w.heap.size, 5, none⟩ (.int .i64 tk.tk.p)) w.heap.size = some (⟨k, bs t, n, false, none, 0, 0, tk.tk.p⟩ : Nc).cells := rowAt_set _ _ _ _ _ r3; have m5 : roomAt (w2.setCell ⟨w.heap.size, 5, none⟩ (.int .i64 tk.tk.p)) (w.heap.size + 1) 6 = true := (roomAt_far _ _ _ _ _ (by show w.heap.size + 1 ≠ w.heap.size; omega)).trans m4)
  exact ret_cell1 rfl rfl (loadNd_row (rowNd_put _ _ _ m5)) rfl ⟨_, i + 1, rfl, rfl, by omega, (S2.out.far bl gl _ 5 (Nat.le_refl _) _).old bl gl _ (by omega) _, NdAt.mk k t n false [] tk.p none 0 (KidsAt.nil _ _)⟩
set_option maxHeartbeats 1000000 in
set_option maxRecDepth 20000 in
theorem named_yes (w : World) (b g cap : Nat) (L : List Tok) (i o : Nat) (h : RdAt w b g cap L i o) (hk : (hd (L.drop i)).k = 1) (k : Int) :
    Calls Tryd.prog 31 #[.pointer (some ⟨b, 0, none⟩), .int .i64 k] w (PostN w b g cap L i o (.ok (.mk k (hd (L.drop i)).t 0 false [] (hd (L.drop i)).p) (L.drop (i + 1)))) := by
  have PA : Hid (∀ X, RdAt X b g cap L i o → Calls Tryd.prog 53 #[.pointer (some ⟨b, 0, none⟩)] X _) := fun X hX => name_yes X b g cap L i o hX hk
  have H : Hid (RdAt w b g cap L i o) := h
  have bl := h.bl
  have gl := h.gl
  clear h hk
  generalize hd (L.drop i) = tk at PA ⊢
  go_enter Tryd.func31, Tryd.ntmps31
  go_wp2_with (go_at_call 53; refine (PA.out _ (H.out.alloc _)).mono ?_; rintro e w2 ⟨rfl, s2⟩; have S2 : Hid (St w w2 b g cap L (i + 1) o) := ((St.refl H.out).alloc _).next s2; have hs2 := s2.size; simp at hs2; have hl2 : w.heap.size < w2.heap.size := (by omega); have m4 : roomAt w2 w.heap.size 6 = true := (s2.room (by simp) (by omega) 6).trans (roomNd_new _ _ _ _ (by simp)))
  exact ret_cell1 rfl rfl (loadNd_row ((rowAt_old _ _ _ (by rw [size_put]; omega)).trans (rowNd_put _ _ _ m4))) rfl ⟨_, i + 1, rfl, rfl, by omega, (S2.out.old bl gl _ (Nat.le_refl _) _).alloc _, NdAt.mk k tk.t 0 false [] tk.p none 0 (KidsAt.nil _ _)⟩
set_option maxHeartbeats 1000000 in
set_option maxRecDepth 20000 in
theorem named_no (w : World) (b g cap : Nat) (L : List Tok) (i o : Nat) (h : RdAt w b g cap L i o) (hk : (hd (L.drop i)).k ≠ 1) (k : Int) :
    Calls Tryd.prog 31 #[.pointer (some ⟨b, 0, none⟩), .int .i64 k] w (PostN w b g cap L i o (.bad (hd (L.drop i)).p 90)) := by
  have PA : Hid (∀ X, RdAt X b g cap L i o → Calls Tryd.prog 53 #[.pointer (some ⟨b, 0, none⟩)] X _) := fun X hX => name_no X b g cap L i o hX hk
  have H : Hid (RdAt w b g cap L i o) := h
  clear h hk
  generalize (hd (L.drop i)).p = q at PA ⊢
  go_enter Tryd.func31, Tryd.ntmps31
  go_wp2_with (go_at_call 53; refine (PA.out _ (H.out.alloc _)).mono ?_; rintro e w2 ⟨he, g2⟩; unfold gaveUp at he; subst he)
  exact ⟨rfl, rfl, gb_trans ((St.refl H.out).alloc _).gb g2⟩
theorem rk (s l : Bs) : ((bs s).toList == l) = decide (s = l) := by rw [Lib.toList_data, bs_data, Bool.eq_iff_iff, beq_iff_eq, decide_eq_true_eq]
set_option maxHeartbeats 1000000 in
set_option maxRecDepth 20000 in
theorem rank_any (s : Bs) (w : World) : Calls Tryd.prog 44 #[.string (bs s)] w fun e w' => e = .returned (.int .i64 (rankP s)) ∧ w' = w := by
  have k := rk s
  go_enter Tryd.func44, Tryd.ntmps44
  go_wp2
  all_goals
    go_ret
    clear k
    refine ⟨?_, rfl⟩
    go_light
    first
      | (simp_all [rankP]; done)
      | (subst_vars; rfl)
end Go.Proofs.YtllhcjmabhempaaDoor
