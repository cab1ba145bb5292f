/-
  Layer 9: types with a name.
-/
import Derived.Test.YtllhcjmabhempaaDoorCst
namespace Go.Proofs.YtllhcjmabhempaaDoor
set_option linter.unusedVariables false
set_option linter.unusedSimpArgs false
open Go.ChangeShapes Go.WideShapes Go.ChangeAt Go.RowKit


attribute [local go_sem] fieldTk0 fieldTk3 hmf
attribute [local go_sem ↓] bslNd_seal
attribute [local go_sem] bslNd1_run bslNd2_run

theorem named_form {k : Int} {t : List Tok} {n : Nd} {r : List Tok} (h : namedR k t = .ok n r) : ∃ x f p, n = .mk k x 0 f [] p := by
  unfold namedR nameR at h
  split at h
  · rw [Rs.bind_ok] at h
    injection h with h _; exact ⟨_, _, _, h.symm⟩
  · rw [Rs.bind_bad] at h; cases h
def tnmR (type : List Tok → Rs Nd) (t : List Tok) : Rs Nd := (namedR 4 t).bind fun n r => (mustR [61] r).bind fun _ s => (type s).bind fun y u => match n with
  | .mk k x v f _ p => .ok (.mk k x v f [y] p) u
set_option maxHeartbeats 4000000 in
set_option maxRecDepth 20000 in
theorem typeNamed_of (type : List Tok → Rs Nd) (w : World) (b g cap : Nat) (L : List Tok) (i o : Nat) (h : RdAt w b g cap L i o) (hT : ∀ X j, i < j → RdAt X b g cap L j o → Calls Tryd.prog 55 #[.pointer (some ⟨b, 0, none⟩)] X (PostN X b g cap L j o (type (L.drop j)))) : Calls Tryd.prog 37 #[.pointer (some ⟨b, 0, none⟩)] w (PostN w b g cap L i o (tnmR type (L.drop i))) := by
  have bl := h.bl
  have gl := h.gl
  have H : Hid (RdAt w b g cap L i o) := h
  have MA : Hid (∀ X, RdAt X b g cap L i o → Calls Tryd.prog 31 #[.pointer (some ⟨b, 0, none⟩), .int .i64 4] X (PostN X b g cap L i o (namedR 4 (L.drop i)))) := fun X hX => named_any X b g cap L i o hX 4
  clear h
  unfold tnmR
  cases hr : namedR 4 (L.drop i) with
  | bad p er =>
    rw [hr] at MA
    rw [Rs.bind_bad]
    clear hr
    go_enter Tryd.func37, Tryd.ntmps37
    go_wp2_with (go_at_call 31; refine (MA.out _ (H.out.alloc _)).mono ?_; rintro e w2 ⟨he, g2⟩; unfold gaveUp at he; subst he)
    exact ⟨rfl, rfl, gb_trans ((St.refl H.out).alloc _).gb g2⟩
  | ok n r =>
    obtain ⟨x, f, p, rfl⟩ := named_form hr
    rw [hr] at MA
    rw [Rs.bind_ok]
    clear hr
    have MU : Hid (∀ X j, r = L.drop j → RdAt X b g cap L j o → Calls Tryd.prog 30 #[.pointer (some ⟨b, 0, none⟩), .string (bs [61])] X (PostT X b g cap L j o (mustR [61] r))) := fun X j e hX => by rw [e]; exact must_any X b g cap L j o hX _ (by simp)
    cases hm : mustR [61] r with
    | bad p er =>
      rw [hm] at MU
      rw [Rs.bind_bad]
      clear hm
      go_enter Tryd.func37, Tryd.ntmps37
      go_wp2_with (first
        | (go_at_call 31; refine (MA.out _ (H.out.alloc _)).mono ?_; intro e w1 hP; obtain ⟨c1, i1, rfl, ht1, hi1, S1, nd1, s1⟩ := postN_up ((St.refl H.out).alloc _) hP (by simp); have B1 : Hid (St w w1 b g cap L i1 o) := S1)
        | (go_at_call 30; refine (MU.out _ i1 ht1 (B1.out.alloc _).rd).mono ?_; rintro e w2 ⟨he, g2⟩; unfold gaveUp at he; subst he))
      exact ⟨rfl, rfl, gb_trans (B1.out.alloc _).gb g2⟩
    | ok z r2 =>
      rw [hm] at MU
      rw [Rs.bind_ok]
      have hr2 : r2 = r.tail := must_len2 hm
      have TY : Hid (∀ X j, i < j → r = L.drop j → RdAt X b g cap L (j + 1) o → Calls Tryd.prog 55 #[.pointer (some ⟨b, 0, none⟩)] X (PostN X b g cap L (j + 1) o (type r2))) := fun X j hj e hX => by
        have := hT X (j + 1) (by omega) hX
        rwa [← List.tail_drop, ← e, ← hr2] at this
      clear hm hr2 hT
      generalize type r2 = R at TY ⊢
      cases R with
      | bad p er =>
        rw [Rs.bind_bad]
        go_enter Tryd.func37, Tryd.ntmps37
        go_wp2_with (first
          | (go_at_call 31; refine (MA.out _ (H.out.alloc _)).mono ?_; intro e w1 hP; obtain ⟨c1, i1, rfl, ht1, hi1, S1, nd1, s1⟩ := postN_up ((St.refl H.out).alloc _) hP (by simp); have B1 : Hid (St w w1 b g cap L i1 o) := S1)
          | (go_at_call 30; refine (MU.out _ i1 ht1 (B1.out.alloc _).rd).mono ?_; rintro e w2 ⟨rfl, _, s2⟩; have B2 : Hid (St w w2 b g cap L (i1 + 1) o) := (B1.out.alloc _).next s2)
          | (go_at_call 55; refine (TY.out _ i1 hi1 ht1 B2.out.rd).mono ?_; rintro e w3 ⟨he, g3⟩; unfold gaveUp at he; subst he))
        exact ⟨rfl, rfl, gb_trans B2.out.gb g3⟩
      | ok y t =>
        rw [Rs.bind_ok]
        go_enter Tryd.func37, Tryd.ntmps37
        go_wp2_with (first
          | (go_at_call 31; refine (MA.out _ (H.out.alloc _)).mono ?_; intro e w1 hP; obtain ⟨c1, i1, rfl, ht1, hi1, S1, nd1, s1⟩ := postN_up ((St.refl H.out).alloc _) hP (by simp); obtain ⟨a1, m1, rfl⟩ := leaf_cells nd1; have hs1 := s1.size; simp at hs1; have B1 : Hid (St w w1 b g cap L i1 o) := S1; have q1 : roomAt w1 w.heap.size 6 = true := (s1.room (by simp) (by omega) 6).trans (roomNd_new _ _ _ _ (by simp)))
          | (go_at_call 30; refine (MU.out _ i1 ht1 (B1.out.alloc _).rd).mono ?_; rintro e w2 ⟨rfl, _, s2⟩; have hs2 := s2.size; simp at hs2; have B2 : Hid (St w w2 b g cap L (i1 + 1) o) := (B1.out.alloc _).next s2; have r2 : rowAt w2 w1.heap.size = some (⟨4, bs x, 0, f, a1, 0, m1, (p : Int)⟩ : Nc).cells := (s2.row (by simp) (by omega)).trans (rowAt_at _ _ _ _ _ rfl); have p2 : roomAt w2 w1.heap.size 6 = true := (s2.room (by simp) (by omega) 6).trans (roomNd_new _ _ _ _ rfl); have q2 : roomAt w2 w.heap.size 6 = true := (s2.room (by simp; omega) (by omega) 6).trans ((roomAt_old _ _ _ _ (by omega)).trans q1))
          | (go_at_call 55; refine (TY.out _ i1 hi1 ht1 B2.out.rd).mono ?_; rintro e w3 ⟨c3, i3, rfl, ht3, hi3, s3, nd3⟩; have hs3 := s3.size; have B3 : Hid (St w w3 b g cap L i3 o ∧ NdAt w3 (fun x => w2.heap.size ≤ x) c3 y) := ⟨B2.out.next s3, nd3⟩; have hn3 : w1.heap.size ≠ w3.heap.size := (by omega); have hl3 : w1.heap.size < w3.heap.size := (by omega); have hw3 : w.heap.size ≠ w3.heap.size := (by omega); have hv3 : w.heap.size < w3.heap.size := (by omega); have hn1 : w.heap.size ≠ w1.heap.size := (by omega); have r30 : rowAt w3 w1.heap.size = some (⟨4, bs x, 0, f, a1, 0, m1, (p : Int)⟩ : Nc).cells := (s3.row (by omega) (by omega)).trans r2; have p30 : roomAt w3 w1.heap.size 6 = true := (s3.room (by omega) (by omega) 6).trans p2; have q30 : roomAt w3 w.heap.size 6 = true := (s3.room (by omega) (by omega) 6).trans q2; have c30 := rowAt_cell r30; have f30 : w3.frozen? ⟨w1.heap.size, 4, none⟩ = false := (by have := (room_there p30 4 (by omega)).2; rwa [Nat.zero_add] at this); have q50 : roomAt (w3.setCell ⟨w1.heap.size, 4, none⟩ (.slice (some ⟨w3.heap.size, 0, none⟩) 1 1)) w.heap.size 6 = true := (roomAt_far _ _ _ _ _ (by show w.heap.size ≠ w1.heap.size; omega)).trans q30; have r50 : rowAt (w3.setCell ⟨w1.heap.size, 4, none⟩ (.slice (some ⟨w3.heap.size, 0, none⟩) 1 1)) w1.heap.size = some (⟨4, bs x, 0, f, some ⟨w3.heap.size, 0, none⟩, 1, 1, (p : Int)⟩ : Nc).cells := rowAt_set _ _ _ _ _ r30; clear nd3 s3))
        have hz : (putRow (w3.setCell ⟨w1.heap.size, 4, none⟩ (.slice (some ⟨w3.heap.size, 0, none⟩) 1 1)) w.heap.size (⟨4, bs x, 0, f, some ⟨w3.heap.size, 0, none⟩, 1, 1, (p : Int)⟩ : Nc).cells).heap.size = w3.heap.size := by rw [size_put]; simp
        have mb := heap_new' (k := w3.heap.size) (putRow (w3.setCell ⟨w1.heap.size, 4, none⟩ (.slice (some ⟨w3.heap.size, 0, none⟩) 1 1)) w.heap.size (⟨4, bs x, 0, f, some ⟨w3.heap.size, 0, none⟩, 1, 1, (p : Int)⟩ : Nc).cells) (.cells c3.cells 31) hz.symm
        have n3 : NdAt ((putRow (w3.setCell ⟨w1.heap.size, 4, none⟩ (.slice (some ⟨w3.heap.size, 0, none⟩) 1 1)) w.heap.size (⟨4, bs x, 0, f, some ⟨w3.heap.size, 0, none⟩, 1, 1, (p : Int)⟩ : Nc).cells).alloc (.cells c3.cells 31)) (fun x => w.heap.size ≤ x) c3 y := B3.out.2.keep (fun x hx _ => by omega) (by simp [hz]) (fun x hx hl => (((Below.refl _ _).alloc (Nat.le_refl _) _).block x (by omega)).trans ((put_far _ _ _ _ (by omega)).trans (Below.heap_setCell _ _ _ _ (by show x ≠ w1.heap.size; omega))))
        exact ret_cell1 rfl rfl (loadNd_row ((rowAt_old _ _ _ (by omega)).trans (rowNd_put _ _ _ q50))) rfl ⟨_, i3, rfl, ht3, by omega, ((B3.out.1.far bl gl _ 4 (by omega) _).old bl gl _ (Nat.le_refl _) _).alloc _, NdAt.mk 4 x 0 f [y] p _ 1 (KidsAt.cons w3.heap.size 0 c3 y [] (by omega) (Array.getElem?_eq_some_iff.1 mb).1 (fun j hj => by simp [World.cell?, mb]) n3 (KidsAt.nil _ _))⟩
end Go.Proofs.YtllhcjmabhempaaDoor
