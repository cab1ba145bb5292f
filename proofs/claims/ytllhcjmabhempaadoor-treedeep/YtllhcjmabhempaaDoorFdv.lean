/-
  Layer 9: fields and variables.
-/
import Derived.Test.YtllhcjmabhempaaDoorPms
namespace Go.Proofs.YtllhcjmabhempaaDoor
set_option linter.unusedVariables false
set_option linter.unusedSimpArgs false
open Go.ChangeShapes Go.WideShapes Go.ChangeAt Go.RowKit


attribute [local go_sem] fieldTk0 fieldTk3 hmf

set_option maxHeartbeats 2000000 in
set_option maxRecDepth 20000 in
theorem fields_of (type : List Tok → Rs Nd) (w : World) (b g cap : Nat) (L : List Tok) (i o : Nat) (h : RdAt w b g cap L i o) (hT : ∀ X j, i < j → RdAt X b g cap L j o → Calls Tryd.prog 55 #[.pointer (some ⟨b, 0, none⟩)] X (PostN X b g cap L j o (type (L.drop j)))) : Calls Tryd.prog 78 #[.pointer (some ⟨b, 0, none⟩)] w (PostN w b g cap L i o (typedR 14 (namedR 9) type (L.drop i))) := by
  have bl := h.bl
  have gl := h.gl
  have H : Hid (RdAt w b g cap L i o) := h
  have C : Hid (∀ X, RdAt X b g cap L i o → Calls Tryd.prog 56 #[.pointer (some ⟨b, 0, none⟩), .int .i64 14, .func (.func 79) #[.pointer (some ⟨b, 0, none⟩)] #[], .func (.func 55) #[.pointer (some ⟨b, 0, none⟩)] #[]] X (PostN X b g cap L i o (typedR 14 (namedR 9) type (L.drop i)))) := fun X hX => typed_fields X b g cap L i o hX 14 type hT
  generalize typedR 14 (namedR 9) type (L.drop i) = R at C ⊢
  clear h hT
  cases R with
  | bad p er =>
    go_enter Tryd.func78, Tryd.ntmps78
    go_wp2_with (go_at_call 56; refine (C.out _ (H.out.alloc _)).mono ?_; rintro e w2 ⟨he, g2⟩; unfold gaveUp at he; subst he)
    exact ⟨rfl, rfl, gb_trans ((St.refl H.out).alloc _).gb g2⟩
  | ok n t =>
    go_enter Tryd.func78, Tryd.ntmps78
    go_wp2_with (go_at_call 56; refine (C.out _ (H.out.alloc _)).mono ?_; intro e w5 hP; obtain ⟨c5, i5, rfl, ht5, hi5, S5, nd5, s5⟩ := postN_up ((St.refl H.out).alloc _) hP (by simp); have m5 : roomAt w5 w.heap.size 6 = true := (s5.room (by simp) (by omega) 6).trans (roomNd_new _ _ _ _ (by simp)))
    exact ret_cell1 rfl rfl (loadNd_row (rowNd_put _ _ _ m5)) rfl (fin_post S5 bl gl hi5 ht5 nd5)
set_option maxHeartbeats 2000000 in
set_option maxRecDepth 20000 in
theorem variables_of (type : List Tok → Rs Nd) (w : World) (b g cap : Nat) (L : List Tok) (i o : Nat) (h : RdAt w b g cap L i o) (hT : ∀ X j, i < j → RdAt X b g cap L j o → Calls Tryd.prog 55 #[.pointer (some ⟨b, 0, none⟩)] X (PostN X b g cap L j o (type (L.drop j)))) : Calls Tryd.prog 38 #[.pointer (some ⟨b, 0, none⟩)] w (PostN w b g cap L i o (typedR 5 (markedR 9) type (L.drop i))) := by
  have bl := h.bl
  have gl := h.gl
  have H : Hid (RdAt w b g cap L i o) := h
  have C : Hid (∀ X, RdAt X b g cap L i o → Calls Tryd.prog 56 #[.pointer (some ⟨b, 0, none⟩), .int .i64 5, .func (.func 57) #[.pointer (some ⟨b, 0, none⟩)] #[], .func (.func 55) #[.pointer (some ⟨b, 0, none⟩)] #[]] X (PostN X b g cap L i o (typedR 5 (markedR 9) type (L.drop i)))) := fun X hX => typed_vars X b g cap L i o hX 5 type hT
  generalize typedR 5 (markedR 9) type (L.drop i) = R at C ⊢
  clear h hT
  cases R with
  | bad p er =>
    go_enter Tryd.func38, Tryd.ntmps38
    go_wp2_with (go_at_call 56; refine (C.out _ (H.out.alloc _)).mono ?_; rintro e w2 ⟨he, g2⟩; unfold gaveUp at he; subst he)
    exact ⟨rfl, rfl, gb_trans ((St.refl H.out).alloc _).gb g2⟩
  | ok n t =>
    go_enter Tryd.func38, Tryd.ntmps38
    go_wp2_with (go_at_call 56; refine (C.out _ (H.out.alloc _)).mono ?_; intro e w5 hP; obtain ⟨c5, i5, rfl, ht5, hi5, S5, nd5, s5⟩ := postN_up ((St.refl H.out).alloc _) hP (by simp); have m5 : roomAt w5 w.heap.size 6 = true := (s5.room (by simp) (by omega) 6).trans (roomNd_new _ _ _ _ (by simp)))
    exact ret_cell1 rfl rfl (loadNd_row (rowNd_put _ _ _ m5)) rfl (fin_post S5 bl gl hi5 ht5 nd5)
end Go.Proofs.YtllhcjmabhempaaDoor
