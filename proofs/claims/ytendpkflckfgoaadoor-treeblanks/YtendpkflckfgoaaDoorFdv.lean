/-
  Layer 9: fields and variables.
-/
import Derived.Test.YtendpkflckfgoaaDoorPms
namespace Go.Proofs.YtendpkflckfgoaaDoor
set_option linter.unusedVariables false
set_option linter.unusedSimpArgs false
open Go.ChangeShapes Go.WideShapes Go.ChangeAt Go.RowKit
attribute [local go_sem ↓] loadTk_seal storeTk_seal loadKeys_seal loadSigns_seal
attribute [local go_sem] loadTk_run storeTk_run rowAt_at rowAt_old rowAt_drew rowAt_drewN roomTk_new roomAt_old roomAt_drew roomAt_drewN putTk_new Tk.fold putRow_past rowTk_put size_put putRow_drew putRow_drewN alloc_drewN setCell_drewN Tk.at0 Tk.at1 Tk.at2 Tk.at3 Tk.size Tk.set0 Tk.set1 Tk.set2 Tk.set3 Tk.ne rowAt_set rowAt_far roomAt_far
attribute [local go_sem ↓] loadNd_seal storeNd_seal
attribute [local go_sem] loadNd_run storeNd_run roomNd_new putNd_new Nc.fold rowNd_put Nc.at0 Nc.at1 Nc.at2 Nc.at3 Nc.at4 Nc.at5 Nc.size Nc.set0 Nc.set1 Nc.set2 Nc.set3 Nc.set4 Nc.set5 Nc.ne
attribute [local go_sem] fieldTk0 fieldTk3 hmf

set_option maxHeartbeats 2000000 in
set_option maxRecDepth 20000 in
theorem fields_of (type : List Tok → Rs Nd) (w : World) (b g cap : Nat) (L : List Tok) (i o : Nat) (h : RdAt w b g cap L i o) (hT : ∀ X j, i < j → RdAt X b g cap L j o → Calls Tryd.prog 54 #[.pointer (some ⟨b, 0, none⟩)] X (PostN X b g cap L j o (type (L.drop j)))) : Calls Tryd.prog 83 #[.pointer (some ⟨b, 0, none⟩)] w (PostN w b g cap L i o (typedR 14 (namedR 9) type (L.drop i))) := by
  have bl := h.bl
  have gl := h.gl
  have H : Hid (RdAt w b g cap L i o) := h
  have C : Hid (∀ X, RdAt X b g cap L i o → Calls Tryd.prog 55 #[.pointer (some ⟨b, 0, none⟩), .int .i64 14, .func (.func 84) #[.pointer (some ⟨b, 0, none⟩)] #[], .func (.func 54) #[.pointer (some ⟨b, 0, none⟩)] #[]] X (PostN X b g cap L i o (typedR 14 (namedR 9) type (L.drop i)))) := fun X hX => typed_fields X b g cap L i o hX 14 type hT
  generalize typedR 14 (namedR 9) type (L.drop i) = R at C ⊢
  clear h hT
  cases R with
  | bad p er =>
    go_enter Tryd.func83, Tryd.ntmps83
    go_wp2_with (go_at_call 55; refine (C.out _ (H.out.alloc _)).mono ?_; rintro e w2 ⟨he, g2⟩; unfold gaveUp at he; subst he)
    exact ⟨rfl, rfl, gb_trans ((St.refl H.out).alloc _).gb g2⟩
  | ok n t =>
    go_enter Tryd.func83, Tryd.ntmps83
    go_wp2_with (go_at_call 55; refine (C.out _ (H.out.alloc _)).mono ?_; intro e w5 hP; obtain ⟨c5, i5, rfl, ht5, hi5, S5, nd5, s5⟩ := postN_up ((St.refl H.out).alloc _) hP (by simp); have m5 : roomAt w5 w.heap.size 6 = true := (s5.room (by simp) (by omega) 6).trans (roomNd_new _ _ _ _ (by simp)))
    exact ret_cell1 rfl rfl (loadNd_row (rowNd_put _ _ _ m5)) rfl (fin_post S5 bl gl hi5 ht5 nd5)
set_option maxHeartbeats 2000000 in
set_option maxRecDepth 20000 in
theorem variables_of (type : List Tok → Rs Nd) (w : World) (b g cap : Nat) (L : List Tok) (i o : Nat) (h : RdAt w b g cap L i o) (hT : ∀ X j, i < j → RdAt X b g cap L j o → Calls Tryd.prog 54 #[.pointer (some ⟨b, 0, none⟩)] X (PostN X b g cap L j o (type (L.drop j)))) : Calls Tryd.prog 34 #[.pointer (some ⟨b, 0, none⟩)] w (PostN w b g cap L i o (typedR 5 (markedR 9) type (L.drop i))) := by
  have bl := h.bl
  have gl := h.gl
  have H : Hid (RdAt w b g cap L i o) := h
  have C : Hid (∀ X, RdAt X b g cap L i o → Calls Tryd.prog 55 #[.pointer (some ⟨b, 0, none⟩), .int .i64 5, .func (.func 56) #[.pointer (some ⟨b, 0, none⟩)] #[], .func (.func 54) #[.pointer (some ⟨b, 0, none⟩)] #[]] X (PostN X b g cap L i o (typedR 5 (markedR 9) type (L.drop i)))) := fun X hX => typed_vars X b g cap L i o hX 5 type hT
  generalize typedR 5 (markedR 9) type (L.drop i) = R at C ⊢
  clear h hT
  cases R with
  | bad p er =>
    go_enter Tryd.func34, Tryd.ntmps34
    go_wp2_with (go_at_call 55; refine (C.out _ (H.out.alloc _)).mono ?_; rintro e w2 ⟨he, g2⟩; unfold gaveUp at he; subst he)
    exact ⟨rfl, rfl, gb_trans ((St.refl H.out).alloc _).gb g2⟩
  | ok n t =>
    go_enter Tryd.func34, Tryd.ntmps34
    go_wp2_with (go_at_call 55; refine (C.out _ (H.out.alloc _)).mono ?_; intro e w5 hP; obtain ⟨c5, i5, rfl, ht5, hi5, S5, nd5, s5⟩ := postN_up ((St.refl H.out).alloc _) hP (by simp); have m5 : roomAt w5 w.heap.size 6 = true := (s5.room (by simp) (by omega) 6).trans (roomNd_new _ _ _ _ (by simp)))
    exact ret_cell1 rfl rfl (loadNd_row (rowNd_put _ _ _ m5)) rfl (fin_post S5 bl gl hi5 ht5 nd5)
end Go.Proofs.YtendpkflckfgoaaDoor
