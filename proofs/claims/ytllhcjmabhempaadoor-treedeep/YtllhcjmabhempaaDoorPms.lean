/-
  Layer 9: parameters.
-/
import Derived.Test.YtllhcjmabhempaaDoorTyd
namespace Go.Proofs.YtllhcjmabhempaaDoor
set_option linter.unusedVariables false
set_option linter.unusedSimpArgs false
open Go.ChangeShapes Go.WideShapes Go.ChangeAt Go.RowKit


attribute [local go_sem] fieldTk0 fieldTk3 hmf

theorem typed_form {k : Int} {ident type : List Tok → Rs Nd} {t : List Tok} {n : Nd} {r : List Tok} (h : typedR k ident type t = .ok n r) : ∃ kids p, n = .mk k [] 0 false kids p := by
  unfold typedR at h
  cases h1 : rowR [44] ident (t.length + 1) [] t with
  | bad p e => rw [h1, Rs.bind_bad] at h; cases h
  | ok l r1 =>
    rw [h1, Rs.bind_ok] at h
    cases h2 : mustR [58] r1 with
    | bad p e => rw [h2, Rs.bind_bad] at h; cases h
    | ok z s =>
      rw [h2, Rs.bind_ok] at h
      cases h3 : type s with
      | bad p e => rw [h3, Rs.bind_bad] at h; cases h
      | ok y u =>
        rw [h3, Rs.bind_ok] at h
        injection h with h _
        exact ⟨_, _, h.symm⟩
theorem nd_open {w : World} {P : Nat → Prop} {c : Nc} {k n : Int} {t : Bs} {f : Bool} {kids : List Nd} {p : Nat} (h : NdAt w P c (.mk k t n f kids p)) : ∃ a m, c = ⟨k, bs t, n, f, a, kids.length, m, (p : Int)⟩ ∧ KidsAt w P a 0 kids := by
  cases h with
  | mk _ _ _ _ _ _ a m hk => exact ⟨a, m, rfl, hk⟩
set_option maxHeartbeats 4000000 in
set_option maxRecDepth 20000 in
theorem parameters_any (w : World) (b g cap : Nat) (L : List Tok) (i o : Nat) (h : RdAt w b g cap L i o) : Calls Tryd.prog 68 #[.pointer (some ⟨b, 0, none⟩)] w (PostN w b g cap L i o (paramR (L.drop i))) := by
  have bl := h.bl
  have gl := h.gl
  have H : Hid (RdAt w b g cap L i o) := h
  have HE : Hid (∀ X, RdAt X b g cap L i o → Calls Tryd.prog 28 #[.pointer (some ⟨b, 0, none⟩)] X _) := fun X hX => here_any X b g cap L i o hX
  unfold paramR
  by_cases hw : wd (L.drop i) = [86, 65, 82]
  · rw [if_pos hw, List.tail_drop, decide_eq_true hw]
    have FO : Hid (∀ X, RdAt X b g cap L i o → Calls Tryd.prog 32 #[.pointer (some ⟨b, 0, none⟩), .string (bs [86, 65, 82])] X _) := fun X hX => found_yes X b g cap L i o hX [86, 65, 82] (by simp) hw
    have TD : Hid (∀ X, RdAt X b g cap L (i + 1) o → Calls Tryd.prog 56 #[.pointer (some ⟨b, 0, none⟩), .int .i64 7, .func (.func 79) #[.pointer (some ⟨b, 0, none⟩)] #[], .func (.func 80) #[.pointer (some ⟨b, 0, none⟩)] #[]] X (PostN X b g cap L (i + 1) o (typedR 7 (namedR 9) ptypeR (L.drop (i + 1))))) := fun X hX => typed_params X b g cap L (i + 1) o hX 7 ptypeR (fun Y j _ hY => ptype_any Y b g cap L j o hY)
    clear h hw
    generalize hd (L.drop i) = tk at HE ⊢
    cases hr : typedR 7 (namedR 9) ptypeR (L.drop (i + 1)) with
    | bad p er =>
      rw [hr] at TD
      rw [Rs.bind_bad]
      clear hr
      go_enter Tryd.func68, Tryd.ntmps68
      go_wp2_with (first
        | (go_at_call 28; refine (HE.out _ (H.out.alloc _)).mono ?_; rintro e w0 ⟨rfl, hb0⟩; have B0 : Hid (St w w0 b g cap L i o) := ((St.refl H.out).alloc _).below hb0; have hs0 := hb0.size; simp at hs0; have m0 : roomAt w0 w.heap.size 6 = true := (roomAt_below hb0 _ _ (by simp)).trans (roomNd_new _ _ _ _ (by simp)))
        | (go_at_call 32; refine (FO.out _ B0.out.rd).mono ?_; rintro e w1 ⟨rfl, s1⟩; have hs1 := s1.size; have B1 : Hid (St w w1 b g cap L (i + 1) o) := B0.out.next s1; have m1 : roomAt w1 w.heap.size 6 = true := (s1.room (by omega) (by omega) 6).trans m0)
        | (go_at_call 56; refine (TD.out _ B1.out.rd).mono ?_; rintro e w2 ⟨he, g2⟩; unfold gaveUp at he; subst he))
      exact ⟨rfl, rfl, gb_trans B1.out.gb g2⟩
    | ok n t =>
      obtain ⟨kids, p2, rfl⟩ := typed_form hr
      rw [hr] at TD
      rw [Rs.bind_ok]
      clear hr
      go_enter Tryd.func68, Tryd.ntmps68
      go_wp2_with (first
        | (go_at_call 28; refine (HE.out _ (H.out.alloc _)).mono ?_; rintro e w0 ⟨rfl, hb0⟩; have B0 : Hid (St w w0 b g cap L i o) := ((St.refl H.out).alloc _).below hb0; have hs0 := hb0.size; simp at hs0; have m0 : roomAt w0 w.heap.size 6 = true := (roomAt_below hb0 _ _ (by simp)).trans (roomNd_new _ _ _ _ (by simp)))
        | (go_at_call 32; refine (FO.out _ B0.out.rd).mono ?_; rintro e w1 ⟨rfl, s1⟩; have hs1 := s1.size; have B1 : Hid (St w w1 b g cap L (i + 1) o) := B0.out.next s1; have m1 : roomAt w1 w.heap.size 6 = true := (s1.room (by omega) (by omega) 6).trans m0)
        | (go_at_call 56; refine (TD.out _ B1.out.rd).mono ?_; intro e w2 hP; obtain ⟨c2, i2, rfl, ht2, hi2, S2, nd2, s2⟩ := postN_up B1.out hP (by omega); obtain ⟨a2, m2, rfl, K2⟩ := nd_open nd2; have hs2 := s2.size; have hl2 : w.heap.size < w2.heap.size := (by omega); have hn2 : w.heap.size ≠ w2.heap.size := (by omega); have q2 : roomAt w2 w.heap.size 6 = true := (s2.room (by omega) (by omega) 6).trans m1; have B2 : Hid (St w w2 b g cap L i2 o ∧ KidsAt w2 (fun x => w.heap.size + 1 ≤ x) a2 0 kids) := ⟨S2, K2⟩; have q5 : roomAt (w2.alloc (.cells (⟨7, bs [], 0, true, a2, kids.length, m2, tk.tk.p⟩ : Nc).cells 31)) w.heap.size 6 = true := (roomAt_old _ _ _ _ (by omega)).trans q2; clear S2 K2 nd2 hP s2))
      have KK : KidsAt ((putRow w2 w.heap.size (⟨7, bs [], 0, true, a2, kids.length, m2, tk.tk.p⟩ : Nc).cells).alloc (.cells (⟨7, bs [], 0, true, a2, kids.length, m2, tk.tk.p⟩ : Nc).cells 31)) (fun x => w.heap.size ≤ x) a2 0 kids := B2.out.2.keep (fun x hx _ => by omega) (by simp [size_put]) (fun x hx hl => (((Below.refl _ _).alloc (Nat.le_refl _) _).block x (by rw [size_put]; exact hl)).trans (put_far _ _ _ _ (by omega)))
      exact ret_cell1 rfl rfl (loadNd_row ((rowAt_old _ _ _ (by rw [size_put]; omega)).trans (rowNd_put _ _ _ q2))) rfl ⟨_, i2, rfl, ht2, by omega, (B2.out.1.old bl gl _ (Nat.le_refl _) _).alloc _, NdAt.mk 7 [] 0 true kids tk.p a2 m2 KK⟩
  · rw [if_neg hw, decide_eq_false hw]
    have FO : Hid (∀ X, RdAt X b g cap L i o → Calls Tryd.prog 32 #[.pointer (some ⟨b, 0, none⟩), .string (bs [86, 65, 82])] X _) := fun X hX => found_no X b g cap L i o hX [86, 65, 82] hw
    have TD : Hid (∀ X, RdAt X b g cap L i o → Calls Tryd.prog 56 #[.pointer (some ⟨b, 0, none⟩), .int .i64 7, .func (.func 79) #[.pointer (some ⟨b, 0, none⟩)] #[], .func (.func 80) #[.pointer (some ⟨b, 0, none⟩)] #[]] X (PostN X b g cap L i o (typedR 7 (namedR 9) ptypeR (L.drop i)))) := fun X hX => typed_params X b g cap L i o hX 7 ptypeR (fun Y j _ hY => ptype_any Y b g cap L j o hY)
    clear h hw
    generalize hd (L.drop i) = tk at HE ⊢
    cases hr : typedR 7 (namedR 9) ptypeR (L.drop i) with
    | bad p er =>
      rw [hr] at TD
      rw [Rs.bind_bad]
      clear hr
      go_enter Tryd.func68, Tryd.ntmps68
      go_wp2_with (first
        | (go_at_call 28; refine (HE.out _ (H.out.alloc _)).mono ?_; rintro e w0 ⟨rfl, hb0⟩; have B0 : Hid (St w w0 b g cap L i o) := ((St.refl H.out).alloc _).below hb0; have hs0 := hb0.size; simp at hs0; have m0 : roomAt w0 w.heap.size 6 = true := (roomAt_below hb0 _ _ (by simp)).trans (roomNd_new _ _ _ _ (by simp)))
        | (go_at_call 32; refine (FO.out _ B0.out.rd).mono ?_; rintro e w1 ⟨rfl, hb1⟩; have hs1 := hb1.size; have B1 : Hid (St w w1 b g cap L i o) := B0.out.below hb1; have m1 : roomAt w1 w.heap.size 6 = true := (roomAt_below hb1 _ _ (by omega)).trans m0)
        | (go_at_call 56; refine (TD.out _ B1.out.rd).mono ?_; rintro e w2 ⟨he, g2⟩; unfold gaveUp at he; subst he))
      exact ⟨rfl, rfl, gb_trans B1.out.gb g2⟩
    | ok n t =>
      obtain ⟨kids, p2, rfl⟩ := typed_form hr
      rw [hr] at TD
      rw [Rs.bind_ok]
      clear hr
      go_enter Tryd.func68, Tryd.ntmps68
      go_wp2_with (first
        | (go_at_call 28; refine (HE.out _ (H.out.alloc _)).mono ?_; rintro e w0 ⟨rfl, hb0⟩; have B0 : Hid (St w w0 b g cap L i o) := ((St.refl H.out).alloc _).below hb0; have hs0 := hb0.size; simp at hs0; have m0 : roomAt w0 w.heap.size 6 = true := (roomAt_below hb0 _ _ (by simp)).trans (roomNd_new _ _ _ _ (by simp)))
        | (go_at_call 32; refine (FO.out _ B0.out.rd).mono ?_; rintro e w1 ⟨rfl, hb1⟩; have hs1 := hb1.size; have B1 : Hid (St w w1 b g cap L i o) := B0.out.below hb1; have m1 : roomAt w1 w.heap.size 6 = true := (roomAt_below hb1 _ _ (by omega)).trans m0)
        | (go_at_call 56; refine (TD.out _ B1.out.rd).mono ?_; intro e w2 hP; obtain ⟨c2, i2, rfl, ht2, hi2, S2, nd2, s2⟩ := postN_up B1.out hP (by omega); obtain ⟨a2, m2, rfl, K2⟩ := nd_open nd2; have hs2 := s2.size; have hl2 : w.heap.size < w2.heap.size := (by omega); have hn2 : w.heap.size ≠ w2.heap.size := (by omega); have q2 : roomAt w2 w.heap.size 6 = true := (s2.room (by omega) (by omega) 6).trans m1; have B2 : Hid (St w w2 b g cap L i2 o ∧ KidsAt w2 (fun x => w.heap.size + 1 ≤ x) a2 0 kids) := ⟨S2, K2⟩; have q5 : roomAt (w2.alloc (.cells (⟨7, bs [], 0, false, a2, kids.length, m2, tk.tk.p⟩ : Nc).cells 31)) w.heap.size 6 = true := (roomAt_old _ _ _ _ (by omega)).trans q2; clear S2 K2 nd2 hP s2))
      have KK : KidsAt ((putRow w2 w.heap.size (⟨7, bs [], 0, false, a2, kids.length, m2, tk.tk.p⟩ : Nc).cells).alloc (.cells (⟨7, bs [], 0, false, a2, kids.length, m2, tk.tk.p⟩ : Nc).cells 31)) (fun x => w.heap.size ≤ x) a2 0 kids := B2.out.2.keep (fun x hx _ => by omega) (by simp [size_put]) (fun x hx hl => (((Below.refl _ _).alloc (Nat.le_refl _) _).block x (by rw [size_put]; exact hl)).trans (put_far _ _ _ _ (by omega)))
      exact ret_cell1 rfl rfl (loadNd_row ((rowAt_old _ _ _ (by rw [size_put]; omega)).trans (rowNd_put _ _ _ q2))) rfl ⟨_, i2, rfl, ht2, by omega, (B2.out.1.old bl gl _ (Nat.le_refl _) _).alloc _, NdAt.mk 7 [] 0 false kids tk.p a2 m2 KK⟩
end Go.Proofs.YtllhcjmabhempaaDoor
