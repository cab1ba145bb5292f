/-
  Layer 9: END and a NAME.
-/
import Derived.Test.YtllhcjmabhempaaDoorMrk
namespace Go.Proofs.YtllhcjmabhempaaDoor
set_option linter.unusedVariables false
set_option linter.unusedSimpArgs false
open Go.ChangeShapes Go.WideShapes Go.ChangeAt Go.RowKit


attribute [local go_sem] fieldTk0 fieldTk3 fieldTk1 hmf

/-- What a function leaves that answers a token. -/
def PostT (w : World) (b g cap : Nat) (L : List Tok) (i o : Nat) (r : Rs Tok) (e : Ending) (w' : World) : Prop := match r with
  | .ok x t => e = .returned (.agg x.tk.cells) ∧ t = L.drop (i + 1) ∧ St w w' b g cap L (i + 1) o
  | .bad p er => e = gaveUp p er ∧ w.grownBy w' (some b)
/-- What a function leaves that answers nothing. -/
def PostU (w : World) (b g cap : Nat) (L : List Tok) (i o : Nat) (r : Rs Tok) (e : Ending) (w' : World) : Prop := match r with
  | .ok _ t => ∃ i', e = .returned (.tuple #[]) ∧ t = L.drop i' ∧ i < i' ∧ St w w' b g cap L i' o
  | .bad p er => e = gaveUp p er ∧ w.grownBy w' (some b)
section
variable (w : World) (b g cap : Nat) (L : List Tok) (i o : Nat) (h : RdAt w b g cap L i o)
include h
theorem must_any (s : Bs) (hs : s ≠ []) : Calls Tryd.prog 30 #[.pointer (some ⟨b, 0, none⟩), .string (bs s)] w (PostT w b g cap L i o (mustR s (L.drop i))) := by
  unfold mustR
  by_cases hw : wd (L.drop i) = s
  · rw [if_pos hw]; exact (must_yes w b g cap L i o h s hs hw).mono fun e w' ⟨h1, h2⟩ => ⟨h1, List.tail_drop, h2⟩
  · rw [if_neg hw]; exact must_no w b g cap L i o h s hw
theorem name_any : Calls Tryd.prog 53 #[.pointer (some ⟨b, 0, none⟩)] w (PostT w b g cap L i o (nameR (L.drop i))) := by
  unfold nameR
  by_cases hw : (hd (L.drop i)).k = 1
  · rw [if_pos hw]; exact (name_yes w b g cap L i o h hw).mono fun e w' ⟨h1, h2⟩ => ⟨h1, List.tail_drop, h2⟩
  · rw [if_neg hw]; exact name_no w b g cap L i o h hw
end
set_option maxHeartbeats 2000000 in
set_option maxRecDepth 20000 in
theorem ending_any (w : World) (b g cap : Nat) (L : List Tok) (i o : Nat) (h : RdAt w b g cap L i o) (x : Bs) : Calls Tryd.prog 42 #[.pointer (some ⟨b, 0, none⟩), .string (bs x)] w (PostU w b g cap L i o (endR x (L.drop i))) := by
  have H : Hid (RdAt w b g cap L i o) := h
  have MU : Hid (∀ X, RdAt X b g cap L i o → Calls Tryd.prog 30 #[.pointer (some ⟨b, 0, none⟩), .string (bs [69, 78, 68])] X (PostT X b g cap L i o (mustR [69, 78, 68] (L.drop i)))) := fun X hX => must_any X b g cap L i o hX _ (by simp)
  have HE : Hid (∀ X, RdAt X b g cap L (i + 1) o → Calls Tryd.prog 28 #[.pointer (some ⟨b, 0, none⟩)] X _) := fun X hX => here_any X b g cap L (i + 1) o hX
  have NA : Hid (∀ X, RdAt X b g cap L (i + 1) o → Calls Tryd.prog 53 #[.pointer (some ⟨b, 0, none⟩)] X (PostT X b g cap L (i + 1) o (nameR (L.drop (i + 1))))) := fun X hX => name_any X b g cap L (i + 1) o hX
  have FA : Hid (∀ X, RdAt X b g cap L (i + 1) o → Calls Tryd.prog 29 #[.pointer (some ⟨b, 0, none⟩), .int .i64 92] X _) := fun X hX => fault_any X b g cap L (i + 1) o hX 92
  clear h
  unfold endR
  cases hm : mustR [69, 78, 68] (L.drop i) with
  | bad p er =>
    rw [hm] at MU
    rw [Rs.bind_bad]
    clear HE NA FA hm
    go_enter Tryd.func42, Tryd.ntmps42
    go_wp2_with (go_at_call 30; refine (MU.out _ H.out).mono ?_; rintro e w1 ⟨he, g1⟩; unfold gaveUp at he; subst he)
    exact ⟨rfl, rfl, g1⟩
  | ok y r =>
    rw [hm] at MU
    rw [Rs.bind_ok]
    have hr : r = L.drop (i + 1) := by
      unfold mustR at hm
      split at hm
      · injection hm with _ e; rw [← e, List.tail_drop]
      · cases hm
    subst hr
    clear hm
    have e2 : (hd (L.drop (i + 1))).tk.t = bs (hd (L.drop (i + 1))).t := rfl
    generalize hX : hd (L.drop (i + 1)) = X at HE FA e2 ⊢
    by_cases hk : X.k = 1
    · have d1 : (X.tk.k == 1) = true := by simpa [Tok.tk] using hk
      by_cases ht : X.t = x
      · rw [if_neg (fun e => e.2 ht)]
        subst ht
        cases hn : nameR (L.drop (i + 1)) with
        | bad p er => unfold nameR at hn; rw [hX, if_pos hk] at hn; cases hn
        | ok z s =>
          rw [hn] at NA
          clear FA hn hk hX
          go_enter Tryd.func42, Tryd.ntmps42
          go_wp2_with (first
            | (go_at_call 53; refine (NA.out _ B3.out.rd).mono ?_; rintro e w4 ⟨rfl, hs4, s4⟩)
            | (go_at_call 28; have hx := B2; clear hx; refine (HE.out _ B2.out.rd).mono ?_; rintro e w3 ⟨rfl, hb3⟩; have B3 : Hid (St w w3 b g cap L (i + 1) o) := B2.out.below hb3)
            | (go_at_call 28; refine (HE.out _ B1.out.rd).mono ?_; rintro e w2 ⟨rfl, hb2⟩; have B2 : Hid (St w w2 b g cap L (i + 1) o) := B1.out.below hb2)
            | (go_at_call 30; refine (MU.out _ H.out).mono ?_; rintro e w1 ⟨rfl, hs1, s1⟩; have B1 : Hid (St w w1 b g cap L (i + 1) o) := s1))
          first
            | exact bodyPost_ret (v := .tuple #[]) rfl rfl ⟨_, rfl, hs4, by omega, B3.out.next s4⟩
            | exact ⟨rfl, _, rfl, rfl, _, rfl, hs4, by omega, B3.out.next s4⟩
            | (go_end0; exact ⟨_, rfl, hs4, by omega, B3.out.next s4⟩)
      · rw [if_pos ⟨hk, ht⟩]
        have n1 : ((bs X.t).toList == (bs x).toList) = false := by rw [Lib.toList_data, Lib.toList_data, bs_data, bs_data]; simpa using ht
        have n2 : ¬ (bs X.t).toList = (bs x).toList := by rw [Lib.toList_data, Lib.toList_data, bs_data, bs_data]; exact ht
        clear NA hk hX
        go_enter Tryd.func42, Tryd.ntmps42
        go_wp2_with (first
          | (go_at_call 29; refine (FA.out _ B3.out.rd).mono ?_; rintro e w4 ⟨rfl, hb4⟩)
          | (go_at_call 28; have hx := B2; clear hx; refine (HE.out _ B2.out.rd).mono ?_; rintro e w3 ⟨rfl, hb3⟩; have B3 : Hid (St w w3 b g cap L (i + 1) o) := B2.out.below hb3)
          | (go_at_call 28; refine (HE.out _ B1.out.rd).mono ?_; rintro e w2 ⟨rfl, hb2⟩; have B2 : Hid (St w w2 b g cap L (i + 1) o) := B1.out.below hb2)
          | (go_at_call 30; refine (MU.out _ H.out).mono ?_; rintro e w1 ⟨rfl, hs1, s1⟩; have B1 : Hid (St w w1 b g cap L (i + 1) o) := s1))
        exact ⟨rfl, rfl, (B3.out.below hb4).gb⟩
    · have d1 : (X.tk.k == 1) = false := by simpa [Tok.tk] using hk
      rw [if_neg (fun e => hk e.1)]
      cases hn : nameR (L.drop (i + 1)) with
      | ok z s => unfold nameR at hn; rw [hX, if_neg hk] at hn; cases hn
      | bad p er =>
        rw [hn] at NA
        clear FA hn hk hX
        go_enter Tryd.func42, Tryd.ntmps42
        go_wp2_with (first
          | (go_at_call 53; refine (NA.out _ B2.out.rd).mono ?_; rintro e w4 ⟨he, g4⟩; unfold gaveUp at he; subst he)
          | (go_at_call 28; refine (HE.out _ B1.out.rd).mono ?_; rintro e w2 ⟨rfl, hb2⟩; have B2 : Hid (St w w2 b g cap L (i + 1) o) := B1.out.below hb2)
          | (go_at_call 30; refine (MU.out _ H.out).mono ?_; rintro e w1 ⟨rfl, hs1, s1⟩; have B1 : Hid (St w w1 b g cap L (i + 1) o) := s1))
        exact ⟨rfl, rfl, gb_trans B2.out.gb g4⟩
end Go.Proofs.YtllhcjmabhempaaDoor
