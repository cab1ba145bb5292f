/-
  Layer 9: a sign ahead of an operand that gives up.
-/
import Derived.Test.YtendpkflckfgoaaDoorUna
import Derived.Deep.DeepCutAuto
namespace Go.Proofs.YtendpkflckfgoaaDoor
set_option linter.unusedVariables false
set_option linter.unusedSimpArgs false
open Go.ChangeShapes Go.WideShapes Go.ChangeAt Go.RowKit
attribute [local go_sem ↓] loadTk_seal storeTk_seal loadKeys_seal loadSigns_seal
attribute [local go_sem] loadTk_run storeTk_run rowAt_at rowAt_old rowAt_drew rowAt_drewN roomTk_new roomAt_old roomAt_drew roomAt_drewN putTk_new Tk.fold putRow_past rowTk_put size_put putRow_drew putRow_drewN alloc_drewN setCell_drewN Tk.at0 Tk.at1 Tk.at2 Tk.at3 Tk.size Tk.set0 Tk.set1 Tk.set2 Tk.set3 Tk.ne rowAt_set rowAt_far roomAt_far
attribute [local go_sem ↓] loadNd_seal storeNd_seal
attribute [local go_sem] loadNd_run storeNd_run roomNd_new putNd_new Nc.fold rowNd_put Nc.at0 Nc.at1 Nc.at2 Nc.at3 Nc.at4 Nc.at5 Nc.size Nc.set0 Nc.set1 Nc.set2 Nc.set3 Nc.set4 Nc.set5 Nc.ne
attribute [local go_sem] fieldTk0 fieldTk3
attribute [local go_sem ↓] bslNd_seal
attribute [local go_sem] bslNd1_run bslNd2_run

set_option maxHeartbeats 4000000 in
set_option maxRecDepth 20000 in
theorem unary_bad_term (w : World) (b g cap : Nat) (L : List Tok) (i o : Nat) (h : RdAt w b g cap L i o) (ho : o < 24) (hk : (hd (L.drop i)).k ≠ 0) (p : Nat) (er : Int)
    (hF : ∀ X, RdAt X b g cap L (i + 1) (o + 1) → Calls Tryd.prog 49 #[.pointer (some ⟨b, 0, none⟩)] X (PostN X b g cap L (i + 1) (o + 1) (.bad p er))) :
    Calls Tryd.prog 65 #[.pointer (some ⟨b, 0, none⟩), .func (.func 49) #[.pointer (some ⟨b, 0, none⟩)] #[]] w (PostN w b g cap L i o (.bad p er)) := by
  have PA : Hid (∀ X, RdAt X b g cap L i o → Calls Tryd.prog 77 #[.pointer (some ⟨b, 0, none⟩)] X _) := fun X hX => begin_yes X b g cap L i o hX ho hk
  have H : Hid (RdAt w b g cap L i o) := h
  have HF : Hid (∀ X, RdAt X b g cap L (i + 1) (o + 1) → Calls Tryd.prog 49 #[.pointer (some ⟨b, 0, none⟩)] X (PostN X b g cap L (i + 1) (o + 1) (.bad p er))) := hF
  have bl := h.bl
  have gl := h.gl
  clear h hk hF
  generalize hd (L.drop i) = tk at PA
  go_enter Tryd.func65, Tryd.ntmps65
  go_upto_region 2 with (go_at_call 77; refine (PA.out _ (H.out.alloc _)).mono ?_; rintro e w2 ⟨rfl, s2⟩)
  have S2 : St w w2 b g cap L (i + 1) (o + 1) := ((St.refl H.out).alloc _).next s2
  have hs2 := s2.size
  simp at hs2
  have S3 := (S2.alloc (.cells tk.tk.cells 38)).drew
  have hq7 : w2.heap.size ≠ b := by omega
  refine wp_region_held_drew (S := (fun X => rowAt X w2.heap.size = some tk.tk.cells)) (by kernel_rfl) ((rowAt_drew _ _).trans (rowAt_at _ _ _ _ _ rfl)) (fun hHeld => ?_)
  refine wpAnyH_take (i := 0) (v := ?_) rfl (by kernel_rfl) (by kernel_rfl) (by kernel_rfl) (fun _ _ _ h => h) (Or.inl ⟨by rfl, ?y0⟩) hHeld ?r0
  case y0 => (intro w2 hSw; (try dsimp only at hSw); go_simp; try rfl)
  simp only [Act.put, List.setIfInBounds_toArray, List.set_cons_zero, List.set_cons_succ]
  refine wpAnyH_take (i := 1) (v := ?_) rfl (by kernel_rfl) (by kernel_rfl) (by kernel_rfl) (fun _ _ _ h => h) (Or.inl ⟨by rfl, ?y1⟩) hHeld ?r1
  case y1 => (intro w2 hSw; (try dsimp only at hSw); have c3 := rowAt_cell hSw 3; go_simp; try rfl)
  simp only [Act.put, List.setIfInBounds_toArray, List.set_cons_zero, List.set_cons_succ]
  refine wpAnyH_take (i := 2) (v := ?_) rfl (by kernel_rfl) (by kernel_rfl) (by kernel_rfl) (fun _ _ _ h => h) (Or.inl ⟨by rfl, ?y2⟩) hHeld ?r2
  case y2 => (intro w2 hSw; (try dsimp only at hSw); go_simp; try rfl)
  simp only [Act.put, List.setIfInBounds_toArray, List.set_cons_zero, List.set_cons_succ]
  refine wpAnyH_ready (rs := [3, 6]) (by kernel_rfl) (by simp) ?_
  refine AllReadyH.cons rfl (fun K hK => ?_) (AllReadyH.cons rfl (fun K hK => ?_) AllReadyH.nil)
  · go_simp
    go_wp2_with (go_at_call 49; refine (HF.out _ S3.rd).mono ?_; rintro e w5 ⟨he, g5⟩; unfold gaveUp at he; subst he)
    exact ⟨rfl, rfl, gb_trans S3.gb g5⟩
  · go_simp
    have g1 := gb_of_below (by go_grown : Below ((w2.alloc (.cells tk.tk.cells 38)).drew).heap.size ((w2.alloc (.cells tk.tk.cells 38)).drew) (((w2.alloc (.cells tk.tk.cells 38)).drew).alloc (.cells ({ k := 0, t := ⟨#[]⟩, n := 0, f := false, a := none, l := 0, m := 0, p := 0 } : Nc).cells 25))) b
    refine hK.out _ _ (hold1_gb hHeld g1 hq7) (fun _ => ?_)
    clear hK K
    have S4 := S3.alloc (.cells ({ k := 0, t := ⟨#[]⟩, n := 0, f := false, a := none, l := 0, m := 0, p := 0 } : Nc).cells 25)
    refine wpAnyH_ready (rs := [3]) (by kernel_rfl) (by simp) ?_
    refine AllReadyH.cons rfl (fun K hK => ?_) AllReadyH.nil
    go_simp
    go_wp2_with (go_at_call 49; refine (HF.out _ S4.rd).mono ?_; rintro e w5 ⟨he, g5⟩; unfold gaveUp at he; subst he)
    exact ⟨rfl, rfl, gb_trans S4.gb g5⟩
set_option maxHeartbeats 4000000 in
set_option maxRecDepth 20000 in
theorem unary_deep_term (w : World) (b g cap : Nat) (L : List Tok) (i : Nat) (h : RdAt w b g cap L i 24) :
    Calls Tryd.prog 65 #[.pointer (some ⟨b, 0, none⟩), .func (.func 49) #[.pointer (some ⟨b, 0, none⟩)] #[]] w (PostN w b g cap L i 24 (.bad (hd (L.drop i)).p 91)) := by
  have PA : Hid (∀ X, RdAt X b g cap L i 24 → Calls Tryd.prog 77 #[.pointer (some ⟨b, 0, none⟩)] X _) := fun X hX => begin_no X b g cap L i hX
  have H : Hid (RdAt w b g cap L i 24) := h
  clear h
  generalize (hd (L.drop i)).p = q at PA ⊢
  go_enter Tryd.func65, Tryd.ntmps65
  go_wp2_with (go_at_call 77; refine (PA.out _ (H.out.alloc _)).mono ?_; rintro e w2 ⟨he, g2⟩; unfold gaveUp at he; subst he)
  exact ⟨rfl, rfl, gb_trans ((St.refl H.out).alloc _).gb g2⟩
set_option maxHeartbeats 4000000 in
set_option maxRecDepth 20000 in
theorem unary_bad_factor (w : World) (b g cap : Nat) (L : List Tok) (i o : Nat) (h : RdAt w b g cap L i o) (ho : o < 24) (hk : (hd (L.drop i)).k ≠ 0) (p : Nat) (er : Int)
    (hF : ∀ X, RdAt X b g cap L (i + 1) (o + 1) → Calls Tryd.prog 66 #[.pointer (some ⟨b, 0, none⟩)] X (PostN X b g cap L (i + 1) (o + 1) (.bad p er))) :
    Calls Tryd.prog 65 #[.pointer (some ⟨b, 0, none⟩), .func (.func 66) #[.pointer (some ⟨b, 0, none⟩)] #[]] w (PostN w b g cap L i o (.bad p er)) := by
  have PA : Hid (∀ X, RdAt X b g cap L i o → Calls Tryd.prog 77 #[.pointer (some ⟨b, 0, none⟩)] X _) := fun X hX => begin_yes X b g cap L i o hX ho hk
  have H : Hid (RdAt w b g cap L i o) := h
  have HF : Hid (∀ X, RdAt X b g cap L (i + 1) (o + 1) → Calls Tryd.prog 66 #[.pointer (some ⟨b, 0, none⟩)] X (PostN X b g cap L (i + 1) (o + 1) (.bad p er))) := hF
  have bl := h.bl
  have gl := h.gl
  clear h hk hF
  generalize hd (L.drop i) = tk at PA
  go_enter Tryd.func65, Tryd.ntmps65
  go_upto_region 2 with (go_at_call 77; refine (PA.out _ (H.out.alloc _)).mono ?_; rintro e w2 ⟨rfl, s2⟩)
  have S2 : St w w2 b g cap L (i + 1) (o + 1) := ((St.refl H.out).alloc _).next s2
  have hs2 := s2.size
  simp at hs2
  have S3 := (S2.alloc (.cells tk.tk.cells 38)).drew
  have hq7 : w2.heap.size ≠ b := by omega
  refine wp_region_held_drew (S := (fun X => rowAt X w2.heap.size = some tk.tk.cells)) (by kernel_rfl) ((rowAt_drew _ _).trans (rowAt_at _ _ _ _ _ rfl)) (fun hHeld => ?_)
  refine wpAnyH_take (i := 0) (v := ?_) rfl (by kernel_rfl) (by kernel_rfl) (by kernel_rfl) (fun _ _ _ h => h) (Or.inl ⟨by rfl, ?y0⟩) hHeld ?r0
  case y0 => (intro w2 hSw; (try dsimp only at hSw); go_simp; try rfl)
  simp only [Act.put, List.setIfInBounds_toArray, List.set_cons_zero, List.set_cons_succ]
  refine wpAnyH_take (i := 1) (v := ?_) rfl (by kernel_rfl) (by kernel_rfl) (by kernel_rfl) (fun _ _ _ h => h) (Or.inl ⟨by rfl, ?y1⟩) hHeld ?r1
  case y1 => (intro w2 hSw; (try dsimp only at hSw); have c3 := rowAt_cell hSw 3; go_simp; try rfl)
  simp only [Act.put, List.setIfInBounds_toArray, List.set_cons_zero, List.set_cons_succ]
  refine wpAnyH_take (i := 2) (v := ?_) rfl (by kernel_rfl) (by kernel_rfl) (by kernel_rfl) (fun _ _ _ h => h) (Or.inl ⟨by rfl, ?y2⟩) hHeld ?r2
  case y2 => (intro w2 hSw; (try dsimp only at hSw); go_simp; try rfl)
  simp only [Act.put, List.setIfInBounds_toArray, List.set_cons_zero, List.set_cons_succ]
  refine wpAnyH_ready (rs := [3, 6]) (by kernel_rfl) (by simp) ?_
  refine AllReadyH.cons rfl (fun K hK => ?_) (AllReadyH.cons rfl (fun K hK => ?_) AllReadyH.nil)
  · go_simp
    go_wp2_with (go_at_call 66; refine (HF.out _ S3.rd).mono ?_; rintro e w5 ⟨he, g5⟩; unfold gaveUp at he; subst he)
    exact ⟨rfl, rfl, gb_trans S3.gb g5⟩
  · go_simp
    have g1 := gb_of_below (by go_grown : Below ((w2.alloc (.cells tk.tk.cells 38)).drew).heap.size ((w2.alloc (.cells tk.tk.cells 38)).drew) (((w2.alloc (.cells tk.tk.cells 38)).drew).alloc (.cells ({ k := 0, t := ⟨#[]⟩, n := 0, f := false, a := none, l := 0, m := 0, p := 0 } : Nc).cells 25))) b
    refine hK.out _ _ (hold1_gb hHeld g1 hq7) (fun _ => ?_)
    clear hK K
    have S4 := S3.alloc (.cells ({ k := 0, t := ⟨#[]⟩, n := 0, f := false, a := none, l := 0, m := 0, p := 0 } : Nc).cells 25)
    refine wpAnyH_ready (rs := [3]) (by kernel_rfl) (by simp) ?_
    refine AllReadyH.cons rfl (fun K hK => ?_) AllReadyH.nil
    go_simp
    go_wp2_with (go_at_call 66; refine (HF.out _ S4.rd).mono ?_; rintro e w5 ⟨he, g5⟩; unfold gaveUp at he; subst he)
    exact ⟨rfl, rfl, gb_trans S4.gb g5⟩
set_option maxHeartbeats 4000000 in
set_option maxRecDepth 20000 in
theorem unary_deep_factor (w : World) (b g cap : Nat) (L : List Tok) (i : Nat) (h : RdAt w b g cap L i 24) :
    Calls Tryd.prog 65 #[.pointer (some ⟨b, 0, none⟩), .func (.func 66) #[.pointer (some ⟨b, 0, none⟩)] #[]] w (PostN w b g cap L i 24 (.bad (hd (L.drop i)).p 91)) := by
  have PA : Hid (∀ X, RdAt X b g cap L i 24 → Calls Tryd.prog 77 #[.pointer (some ⟨b, 0, none⟩)] X _) := fun X hX => begin_no X b g cap L i hX
  have H : Hid (RdAt w b g cap L i 24) := h
  clear h
  generalize (hd (L.drop i)).p = q at PA ⊢
  go_enter Tryd.func65, Tryd.ntmps65
  go_wp2_with (go_at_call 77; refine (PA.out _ (H.out.alloc _)).mono ?_; rintro e w2 ⟨he, g2⟩; unfold gaveUp at he; subst he)
  exact ⟨rfl, rfl, gb_trans ((St.refl H.out).alloc _).gb g2⟩
end Go.Proofs.YtendpkflckfgoaaDoor
