/-
  Layer 9: names; what opens and what ends.
-/
import Derived.Test.YtllhcjmabhempaaDoorSml
namespace Go.Proofs.YtllhcjmabhempaaDoor
set_option linter.unusedVariables false
set_option linter.unusedSimpArgs false
open Go.ChangeShapes Go.WideShapes Go.ChangeAt Go.RowKit


attribute [local go_sem] fieldTk0 fieldTk3

set_option maxHeartbeats 1000000 in
set_option maxRecDepth 20000 in
theorem name_yes (w : World) (b g cap : Nat) (L : List Tok) (i o : Nat) (h : RdAt w b g cap L i o) (hk : (hd (L.drop i)).k = 1) :
    Calls Tryd.prog 53 #[.pointer (some ⟨b, 0, none⟩)] w fun e w' => e = .returned (.agg (hd (L.drop i)).tk.cells) ∧ St w w' b g cap L (i + 1) o := by
  have WA : Hid (∀ X, RdAt X b g cap L i o → Calls Tryd.prog 28 #[.pointer (some ⟨b, 0, none⟩)] X _) := fun X hX => here_any X b g cap L i o hX
  have PA : Hid (∀ X, RdAt X b g cap L i o → Calls Tryd.prog 52 #[.pointer (some ⟨b, 0, none⟩)] X _) := fun X hX => pass_any X b g cap L i o hX (by omega)
  have H : Hid (RdAt w b g cap L i o) := h
  have bl := h.bl
  have gl := h.gl
  have k1 : ((hd (L.drop i)).tk.k != 1) = false := by simpa [Tok.tk] using hk
  clear h hk
  generalize (hd (L.drop i)).tk = x at PA WA k1 ⊢
  go_enter Tryd.func53, Tryd.ntmps53
  go_wp2_with (first | (go_at_call 28; refine (WA.out _ (H.out.alloc _)).mono ?_; rintro e w1 ⟨rfl, hb1⟩; have R1 : Hid (St w w1 b g cap L i o) := ((St.refl H.out).alloc _).below hb1; have p1 : roomAt w1 w.heap.size 4 = true := (roomAt_below hb1 _ _ (by simp)).trans (roomTk_new _ _ _ _ rfl); have hs1 := hb1.size; simp at hs1) | (go_at_call 52; refine (PA.out _ R1.out.rd).mono ?_; rintro e w2 ⟨rfl, s2⟩; have p2 : roomAt w2 w.heap.size 4 = true := (s2.room (by omega) (by omega) 4).trans p1))
  exact ret_cell1 rfl rfl (loadTk_row (c := x) (rowTk_put _ _ _ p2)) rfl ⟨rfl, (R1.out.next s2).old bl gl _ (Nat.le_refl _) _⟩
set_option maxHeartbeats 1000000 in
set_option maxRecDepth 20000 in
theorem name_no (w : World) (b g cap : Nat) (L : List Tok) (i o : Nat) (h : RdAt w b g cap L i o) (hk : (hd (L.drop i)).k ≠ 1) :
    Calls Tryd.prog 53 #[.pointer (some ⟨b, 0, none⟩)] w fun e w' => e = gaveUp (hd (L.drop i)).p 90 ∧ w.grownBy w' (some b) := by
  have WA : Hid (∀ X, RdAt X b g cap L i o → Calls Tryd.prog 28 #[.pointer (some ⟨b, 0, none⟩)] X _) := fun X hX => here_any X b g cap L i o hX
  have FA : Hid (∀ X, RdAt X b g cap L i o → Calls Tryd.prog 29 #[.pointer (some ⟨b, 0, none⟩), .int .i64 90] X _) := fun X hX => fault_any X b g cap L i o hX 90
  have H : Hid (RdAt w b g cap L i o) := h
  have k1 : ((hd (L.drop i)).tk.k != 1) = true := by simpa [Tok.tk] using hk
  clear h hk
  generalize (hd (L.drop i)).p = q at FA ⊢
  generalize (hd (L.drop i)).tk = x at WA k1
  go_enter Tryd.func53, Tryd.ntmps53
  go_wp2_with (first | (go_at_call 28; refine (WA.out _ (H.out.alloc _)).mono ?_; rintro e w1 ⟨rfl, hb1⟩; have R1 : Hid (St w w1 b g cap L i o) := ((St.refl H.out).alloc _).below hb1) | (go_at_call 29; refine (FA.out _ R1.out.rd).mono ?_; rintro e w2 ⟨rfl, hb2⟩))
  exact ⟨rfl, rfl, (R1.out.below hb2).gb⟩
set_option maxHeartbeats 1000000 in
set_option maxRecDepth 20000 in
theorem begin_no (w : World) (b g cap : Nat) (L : List Tok) (i : Nat) (h : RdAt w b g cap L i 24) :
    Calls Tryd.prog 76 #[.pointer (some ⟨b, 0, none⟩)] w fun e w' => e = gaveUp (hd (L.drop i)).p 91 ∧ w.grownBy w' (some b) := by
  have FA : Hid (∀ X, RdAt X b g cap L i 24 → Calls Tryd.prog 29 #[.pointer (some ⟨b, 0, none⟩), .int .i64 91] X _) := fun X hX => fault_any X b g cap L i 24 hX 91
  have H : Hid (RdAt w b g cap L i 24) := h
  have c2 := h.c2
  have bl := h.bl
  have k1 : (((24 : Nat) : Int) == 24) = true := rfl
  clear h
  generalize (hd (L.drop i)).p = q at FA ⊢
  go_enter Tryd.func76, Tryd.ntmps76
  go_wp2_with (go_at_call 29; refine (FA.out _ (H.out.alloc _)).mono ?_; rintro e w2 ⟨rfl, hb2⟩)
  exact ⟨rfl, rfl, (((St.refl H.out).alloc _).below hb2).gb⟩
set_option maxHeartbeats 1000000 in
set_option maxRecDepth 20000 in
theorem begin_yes (w : World) (b g cap : Nat) (L : List Tok) (i o : Nat) (h : RdAt w b g cap L i o) (ho : o < 24) (hk : (hd (L.drop i)).k ≠ 0) :
    Calls Tryd.prog 76 #[.pointer (some ⟨b, 0, none⟩)] w fun e w' => e = .returned (.agg (hd (L.drop i)).tk.cells) ∧ St w w' b g cap L (i + 1) (o + 1) := by
  have PA : Hid (∀ X, RdAt X b g cap L i (o + 1) → Calls Tryd.prog 52 #[.pointer (some ⟨b, 0, none⟩)] X _) := fun X hX => pass_any X b g cap L i (o + 1) hX hk
  have H : Hid (RdAt w b g cap L i o) := h
  have c2 := h.c2
  have fz := h.fz
  have bl := h.bl
  have gl := h.gl
  have hn1 : w.heap.size ≠ b := by omega
  have k1 : ((o : Int) == 24) = false := by simp; omega
  have R0 : Hid (St w (w.setCell ⟨b, 2, none⟩ (.int .i64 ((o : Int) + 1))) b g cap L i (o + 1)) := ⟨by simpa using h.setO (o + 1) (by omega), gb_set (gb_of_below (Below.refl _ _) b)⟩
  clear h hk
  generalize (hd (L.drop i)).tk = x at PA ⊢
  go_enter Tryd.func76, Tryd.ntmps76
  go_wp2_with (go_at_call 52; refine (PA.out _ (R0.out.alloc _).rd).mono ?_; rintro e w2 ⟨rfl, s2⟩; have s3 := (R0.out.alloc _).next s2; have p2 : roomAt w2 w.heap.size 4 = true := (s2.room (by simp) (by omega) 4).trans (roomTk_new _ _ _ _ (by simp)))
  exact ret_cell1 rfl rfl (loadTk_row (c := x) (rowTk_put _ _ _ p2)) rfl ⟨rfl, s3.old bl gl _ (Nat.le_refl _) _⟩
set_option maxHeartbeats 1000000 in
set_option maxRecDepth 20000 in
theorem end_any (w : World) (b g cap : Nat) (L : List Tok) (i o : Nat) (h : RdAt w b g cap L i (o + 1)) :
    Calls Tryd.prog 77 #[.pointer (some ⟨b, 0, none⟩)] w fun e w' => e = .returned (.tuple #[]) ∧ St w w' b g cap L i o := by
  have c2 := h.c2
  have fz := h.fz
  have hol := h.ol
  have R0 : Hid (St w (w.setCell ⟨b, 2, none⟩ (.int .i64 (o : Int))) b g cap L i o) := ⟨h.setO o (by omega), gb_set (gb_of_below (Below.refl _ _) b)⟩
  clear h
  go_enter Tryd.func77, Tryd.ntmps77
  go_wp2
  first
    | exact bodyPost_ret (v := .tuple #[]) rfl rfl ⟨rfl, by simpa using R0.out⟩
    | exact ⟨rfl, _, rfl, rfl, by simpa using R0.out⟩
    | (go_end0; exact ⟨rfl, by simpa using R0.out⟩)
end Go.Proofs.YtllhcjmabhempaaDoor
