/-
  Layer 9: groups, and elements of sets.
-/
import Derived.Test.YtllhcjmabhempaaDoorFst
namespace Go.Proofs.YtllhcjmabhempaaDoor
set_option linter.unusedVariables false
set_option linter.unusedSimpArgs false
open Go.ChangeShapes Go.WideShapes Go.ChangeAt Go.RowKit


attribute [local go_sem] fieldTk0 fieldTk3 hmf

def grpR (f o : Nat) (t : List Tok) : Rs Nd := (beginR o t).bind fun x r => (run f .expr (o + 1) r).bind fun y s => (mustR [41] s).bind fun _ u => .ok y u
set_option maxHeartbeats 2000000 in
set_option maxRecDepth 20000 in
theorem group_step (f : Nat) (hE : Pc 16 .expr f) (w : World) (b g cap : Nat) (L : List Tok) (i o : Nat) (h : RdAt w b g cap L i o) (hk0 : (hd (L.drop i)).k ≠ 0) (hf : (L.length - i) * 40 ≤ f + 20) :
    Calls Tryd.prog 84 #[.pointer (some ⟨b, 0, none⟩)] w (PostN w b g cap L i o (grpR f o (L.drop i))) := by
  have bl := h.bl
  have gl := h.gl
  have hil := h.il
  have hol := h.ol
  have H : Hid (RdAt w b g cap L i o) := h
  unfold grpR beginR
  by_cases ho : o = 24
  · subst ho
    rw [if_pos rfl, Rs.bind_bad]
    have BN : Hid (∀ X, RdAt X b g cap L i 24 → Calls Tryd.prog 76 #[.pointer (some ⟨b, 0, none⟩)] X _) := fun X hX => begin_no X b g cap L i hX
    clear h hE
    generalize (hd (L.drop i)).p = p at BN ⊢
    go_enter Tryd.func84, Tryd.ntmps84
    go_wp2_with (go_at_call 76; refine (BN.out _ (H.out.alloc _)).mono ?_; rintro e w2 ⟨he, g2⟩; unfold gaveUp at he; subst he)
    exact ⟨rfl, rfl, gb_trans ((St.refl H.out).alloc _).gb g2⟩
  · rw [if_neg ho, Rs.bind_ok, List.tail_drop]
    have BY : Hid (∀ X, RdAt X b g cap L i o → Calls Tryd.prog 76 #[.pointer (some ⟨b, 0, none⟩)] X _) := fun X hX => begin_yes X b g cap L i o hX (by omega) hk0
    have hn : i + 1 < L.length := h.last i h.il (by rw [← h.hd]; exact hk0)
    have E1 : Hid (∀ X, RdAt X b g cap L (i + 1) (o + 1) → Calls Tryd.prog 16 #[.pointer (some ⟨b, 0, none⟩)] X (PostN X b g cap L (i + 1) (o + 1) (run f .expr (o + 1) (L.drop (i + 1))))) := fun X hX => hE X b g cap L (i + 1) (o + 1) hX (by show (L.length - (i + 1)) * 40 + 20 ≤ f; omega)
    clear h hE hk0
    generalize run f .expr (o + 1) (L.drop (i + 1)) = R at E1 ⊢
    cases R with
    | bad p er =>
      rw [Rs.bind_bad]
      go_enter Tryd.func84, Tryd.ntmps84
      go_wp2_with (first
        | (go_at_call 76; refine (BY.out _ (H.out.alloc _)).mono ?_; rintro e w1 ⟨rfl, s1⟩; have B1 : Hid (St w w1 b g cap L (i + 1) (o + 1)) := ((St.refl H.out).alloc _).next s1)
        | (go_at_call 16; refine (E1.out _ B1.out.rd).mono ?_; rintro e w5 ⟨he, g5⟩; unfold gaveUp at he; subst he))
      exact ⟨rfl, rfl, gb_trans B1.out.gb g5⟩
    | ok y s =>
      rw [Rs.bind_ok]
      unfold mustR
      by_cases hm : wd s = [41]
      · rw [if_pos hm, Rs.bind_ok]
        have MY : Hid (∀ i2, s = L.drop i2 → ∀ X, RdAt X b g cap L i2 (o + 1) → Calls Tryd.prog 30 #[.pointer (some ⟨b, 0, none⟩), .string (bs [41])] X _) := fun i2 e2 X hX => must_yes X b g cap L i2 (o + 1) hX [41] (by decide) (by rw [← e2]; exact hm)
        clear hm
        go_enter Tryd.func84, Tryd.ntmps84
        go_wp2_with (first
          | (go_at_call 76; refine (BY.out _ (H.out.alloc _)).mono ?_; rintro e w1 ⟨rfl, s1⟩; have hs1 := s1.size; simp at hs1; have B1 : Hid (St w w1 b g cap L (i + 1) (o + 1)) := ((St.refl H.out).alloc _).next s1; have m1 : roomAt w1 w.heap.size 6 = true := (s1.room (by simp) (by omega) 6).trans (roomNd_new _ _ _ _ (by simp)))
          | (go_at_call 16; refine (E1.out _ B1.out.rd).mono ?_; rintro e w2 ⟨c2, i2, rfl, ht2, hi2, s2, nd2⟩; have hs2 := s2.size; have m2 : roomAt w2 w.heap.size 6 = true := (s2.room (by omega) (by omega) 6).trans m1; have A2 : Hid (St w w2 b g cap L i2 (o + 1) ∧ NdAt w2 (fun x => w.heap.size + 1 ≤ x) c2 y ∧ i + 1 < i2 ∧ s = L.drop i2) := ⟨B1.out.next s2, nd2.mono (by omega), hi2, ht2⟩; clear nd2 ht2 hi2)
          | (go_at_call 30; refine (MY.out i2 A2.out.2.2.2 _ (A2.out.1.alloc _).rd).mono ?_; rintro e w3 ⟨rfl, s3⟩; have hs3 := s3.size; simp at hs3; have r3 : rowAt w3 w2.heap.size = some c2.cells := (s3.row (by simp) (by omega)).trans (rowAt_at _ _ _ _ _ rfl); have m3 : roomAt w3 w.heap.size 6 = true := (s3.room (by simp; omega) (by omega) 6).trans ((roomAt_old _ _ _ _ (by omega)).trans m2); have A3 : Hid (St w w3 b g cap L (i2 + 1) (o + 1) ∧ NdAt w3 (fun x => w.heap.size + 1 ≤ x) c2 y) := ⟨(A2.out.1.alloc _).next s3, NdAt.stepP (b := b) A2.out.2.1 (fun x hx => by omega) (gb_trans (gb_of_below (by go_grown) b) s3.gb)⟩)
          | (go_at_call 77; refine (end_any _ b g cap L (i2 + 1) o A3.out.1.rd).mono ?_; rintro e w4 ⟨rfl, s4⟩; have r4 : rowAt w4 w2.heap.size = some c2.cells := (s4.row (by omega) (by omega)).trans r3; have m4 : roomAt w4 w.heap.size 6 = true := (s4.room (by omega) (by omega) 6).trans m3; have A4 : Hid (St w w4 b g cap L (i2 + 1) o ∧ NdAt w4 (fun x => w.heap.size + 1 ≤ x) c2 y) := ⟨A3.out.1.next s4, NdAt.stepP (b := b) A3.out.2 (fun x hx => by omega) s4.gb⟩))
        have e9 := A2.out.2.2.2
        have e8 := A2.out.2.2.1
        exact ret_cell1 rfl rfl (loadNd_row (rowNd_put _ _ _ m4)) rfl (fin_post A4.out.1 bl gl (by omega) (by rw [e9, List.tail_drop]) A4.out.2)
      · rw [if_neg hm, Rs.bind_bad]
        have MN : Hid (∀ i2, s = L.drop i2 → ∀ X, RdAt X b g cap L i2 (o + 1) → Calls Tryd.prog 30 #[.pointer (some ⟨b, 0, none⟩), .string (bs [41])] X fun e w' => e = gaveUp (hd s).p 90 ∧ X.grownBy w' (some b)) := fun i2 e2 X hX => by rw [e2]; exact must_no X b g cap L i2 (o + 1) hX [41] (by rw [← e2]; exact hm)
        clear hm
        generalize (hd s).p = pp at MN ⊢
        go_enter Tryd.func84, Tryd.ntmps84
        go_wp2_with (first
          | (go_at_call 76; refine (BY.out _ (H.out.alloc _)).mono ?_; rintro e w1 ⟨rfl, s1⟩; have B1 : Hid (St w w1 b g cap L (i + 1) (o + 1)) := ((St.refl H.out).alloc _).next s1)
          | (go_at_call 16; refine (E1.out _ B1.out.rd).mono ?_; rintro e w2 ⟨c2, i2, rfl, ht2, hi2, s2, nd2⟩; have A2 : Hid (St w w2 b g cap L i2 (o + 1) ∧ s = L.drop i2) := ⟨B1.out.next s2, ht2⟩; clear nd2 ht2 hi2)
          | (go_at_call 30; refine (MN.out i2 A2.out.2 _ (A2.out.1.alloc _).rd).mono ?_; rintro e w5 ⟨he, g5⟩; unfold gaveUp at he; subst he))
        exact ⟨rfl, rfl, gb_trans (A2.out.1.alloc _).gb g5⟩
end Go.Proofs.YtllhcjmabhempaaDoor
