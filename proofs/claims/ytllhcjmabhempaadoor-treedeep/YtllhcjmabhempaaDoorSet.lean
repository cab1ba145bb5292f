/-
  Layer 9: sets.
-/
import Derived.Test.YtllhcjmabhempaaDoorGrp
import Derived.Test.YtllhcjmabhempaaDoorRow
namespace Go.Proofs.YtllhcjmabhempaaDoor
set_option linter.unusedVariables false
set_option linter.unusedSimpArgs false
open Go.ChangeShapes Go.WideShapes Go.ChangeAt Go.RowKit


attribute [local go_sem] fieldTk0 fieldTk3 hmf

def setR (f o : Nat) (t : List Tok) : Rs Nd := (beginR o t).bind fun x r => (if wd r = [125] then .ok (lst []) r else run f (.row [44] .elem []) (o + 1) r).bind fun l s => (mustR [125] s).bind fun _ u => .ok (.mk 29 [] 0 false l.kids x.p) u
set_option maxHeartbeats 4000000 in
set_option maxRecDepth 20000 in
theorem set_step (f : Nat) (hP : ∀ f', f' ≤ f → Pc 88 .elem f') (w : World) (b g cap : Nat) (L : List Tok) (i o : Nat) (h : RdAt w b g cap L i o) (hk0 : (hd (L.drop i)).k ≠ 0) (hf : (L.length - i) * 40 ≤ f + 18) :
    Calls Tryd.prog 83 #[.pointer (some ⟨b, 0, none⟩)] w (PostN w b g cap L i o (setR (f + 1) o (L.drop i))) := by
  have bl := h.bl
  have gl := h.gl
  have hil := h.il
  have hol := h.ol
  have H : Hid (RdAt w b g cap L i o) := h
  unfold setR beginR
  by_cases ho : o = 24
  · subst ho
    rw [if_pos rfl, Rs.bind_bad]
    have BN : Hid (∀ X, RdAt X b g cap L i 24 → Calls Tryd.prog 76 #[.pointer (some ⟨b, 0, none⟩)] X _) := fun X hX => begin_no X b g cap L i hX
    clear h hP
    generalize (hd (L.drop i)).p = p at BN ⊢
    go_enter Tryd.func83, Tryd.ntmps83
    go_wp2_with (go_at_call 76; refine (BN.out _ (H.out.alloc _)).mono ?_; rintro e w2 ⟨he, g2⟩; unfold gaveUp at he; subst he)
    exact ⟨rfl, rfl, gb_trans ((St.refl H.out).alloc _).gb g2⟩
  · rw [if_neg ho, Rs.bind_ok, List.tail_drop]
    have BY : Hid (∀ X, RdAt X b g cap L i o → Calls Tryd.prog 76 #[.pointer (some ⟨b, 0, none⟩)] X _) := fun X hX => begin_yes X b g cap L i o hX (by omega) hk0
    have hn : i + 1 < L.length := h.last i h.il (by rw [← h.hd]; exact hk0)
    have RO : Hid (∀ X, RdAt X b g cap L (i + 1) (o + 1) → Calls Tryd.prog 33 #[.pointer (some ⟨b, 0, none⟩), .string (bs [44]), .func (.func 88) #[.pointer (some ⟨b, 0, none⟩)] #[]] X (PostL X b g cap L (i + 1) (o + 1) (run (f + 1) (.row [44] .elem []) (o + 1) (L.drop (i + 1))))) := fun X hX => row_elem f hP X b g cap L (i + 1) (o + 1) [44] (by decide) hX (by omega)
    have k1 := rk (wd (L.drop (i + 1)))
    clear h hP hk0
    obtain ⟨tk, htk⟩ : ∃ tk, tk = hd (L.drop i) := ⟨_, rfl⟩
    rw [← htk] at BY ⊢
    clear htk
    by_cases hc : wd (L.drop (i + 1)) = [125]
    · rw [if_pos hc, Rs.bind_ok]
      have d1 : decide (wd (L.drop (i + 1)) = [125]) = true := by simpa using hc
      unfold mustR
      rw [if_pos hc, Rs.bind_ok]
      have MY : Hid (∀ X, RdAt X b g cap L (i + 1) (o + 1) → Calls Tryd.prog 30 #[.pointer (some ⟨b, 0, none⟩), .string (bs [125])] X _) := fun X hX => must_yes X b g cap L (i + 1) (o + 1) hX [125] (by decide) hc
      clear RO hc
      go_enter Tryd.func83, Tryd.ntmps83
      go_wp2_with (first
        | (go_at_call 76; refine (BY.out _ (H.out.alloc _)).mono ?_; rintro e w1 ⟨rfl, s1⟩; have hs1 := s1.size; simp at hs1; have B1 : Hid (St w w1 b g cap L (i + 1) (o + 1)) := ((St.refl H.out).alloc _).next s1; have m1 : roomAt w1 w.heap.size 6 = true := (s1.room (by simp) (by omega) 6).trans (roomNd_new _ _ _ _ (by simp)))
        | (go_at_call 59; refine (node_any _ _ _ _ _ _).mono ?_; rintro e w2 ⟨rfl, hb2⟩; have hs2 := hb2.size; have m2 : roomAt w2 w.heap.size 6 = true := (roomAt_below hb2 _ _ (by omega)).trans m1; have B2 : Hid (St w w2 b g cap L (i + 1) (o + 1)) := B1.out.below hb2)
        | (go_at_call 39; refine (word_any _ b g cap L (i + 1) (o + 1) (B2.out.alloc _).rd).mono ?_; rintro e w3 ⟨rfl, hb3⟩; have hs3 := hb3.size; simp at hs3; have r3 : rowAt w3 w2.heap.size = some (⟨29, ⟨#[]⟩, 0, false, none, 0, 0, tk.tk.p⟩ : Nc).cells := (rowAt_below hb3 _ (by simp)).trans (rowAt_at _ _ _ _ _ rfl); have q3 : roomAt w3 w2.heap.size 6 = true := (roomAt_below hb3 _ _ (by simp)).trans (roomNd_new _ _ _ _ rfl); have m3 : roomAt w3 w.heap.size 6 = true := (roomAt_below hb3 _ _ (by simp; omega)).trans ((roomAt_old _ _ _ _ (by omega)).trans m2); have A3 : Hid (St w w3 b g cap L (i + 1) (o + 1)) := (B2.out.alloc _).below hb3)
        | (go_at_call 30; refine (MY.out _ A3.out.rd).mono ?_; rintro e w4 ⟨rfl, s4⟩; have hs4 := s4.size; have r4 : rowAt w4 w2.heap.size = _ := (s4.row (by omega) (by omega)).trans r3; have m4 : roomAt w4 w.heap.size 6 = true := (s4.room (by omega) (by omega) 6).trans m3; have A4 : Hid (St w w4 b g cap L (i + 1 + 1) (o + 1)) := A3.out.next s4)
        | (go_at_call 77; refine (end_any _ b g cap L (i + 1 + 1) o A4.out.rd).mono ?_; rintro e w5 ⟨rfl, s5⟩; have r5 : rowAt w5 w2.heap.size = _ := (s5.row (by omega) (by omega)).trans r4; have m5 : roomAt w5 w.heap.size 6 = true := (s5.room (by omega) (by omega) 6).trans m4; have A5 : Hid (St w w5 b g cap L (i + 1 + 1) o) := A4.out.next s5))
      exact ret_cell1 rfl rfl (loadNd_row (rowNd_put _ _ _ m5)) rfl (fin_post A5.out bl gl (by omega) (by rw [List.tail_drop]) (NdAt.mk 29 [] 0 false [] tk.p none 0 (KidsAt.nil _ _)))
    · rw [if_neg hc]
      have d1 : decide (wd (L.drop (i + 1)) = [125]) = false := by simpa using hc
      clear hc
      generalize run (f + 1) (.row [44] .elem []) (o + 1) (L.drop (i + 1)) = R at RO ⊢
      cases R with
      | bad p er =>
        rw [Rs.bind_bad]
        go_enter Tryd.func83, Tryd.ntmps83
        go_wp2_with (first
          | (go_at_call 76; refine (BY.out _ (H.out.alloc _)).mono ?_; rintro e w1 ⟨rfl, s1⟩; have hs1 := s1.size; simp at hs1; have B1 : Hid (St w w1 b g cap L (i + 1) (o + 1)) := ((St.refl H.out).alloc _).next s1; have m1 : roomAt w1 w.heap.size 6 = true := (s1.room (by simp) (by omega) 6).trans (roomNd_new _ _ _ _ (by simp)))
          | (go_at_call 59; refine (node_any _ _ _ _ _ _).mono ?_; rintro e w2 ⟨rfl, hb2⟩; have hs2 := hb2.size; have m2 : roomAt w2 w.heap.size 6 = true := (roomAt_below hb2 _ _ (by omega)).trans m1; have B2 : Hid (St w w2 b g cap L (i + 1) (o + 1)) := B1.out.below hb2)
          | (go_at_call 39; refine (word_any _ b g cap L (i + 1) (o + 1) (B2.out.alloc _).rd).mono ?_; rintro e w3 ⟨rfl, hb3⟩; have hs3 := hb3.size; simp at hs3; have r3 : rowAt w3 w2.heap.size = some (⟨29, ⟨#[]⟩, 0, false, none, 0, 0, tk.tk.p⟩ : Nc).cells := (rowAt_below hb3 _ (by simp)).trans (rowAt_at _ _ _ _ _ rfl); have q3 : roomAt w3 w2.heap.size 6 = true := (roomAt_below hb3 _ _ (by simp)).trans (roomNd_new _ _ _ _ rfl); have m3 : roomAt w3 w.heap.size 6 = true := (roomAt_below hb3 _ _ (by simp; omega)).trans ((roomAt_old _ _ _ _ (by omega)).trans m2); have A3 : Hid (St w w3 b g cap L (i + 1) (o + 1)) := (B2.out.alloc _).below hb3)
          | (go_at_call 33; refine (RO.out _ A3.out.rd).mono ?_; rintro e w5 ⟨he, g5⟩; unfold gaveUp at he; subst he))
        exact ⟨rfl, rfl, gb_trans A3.out.gb g5⟩
      | ok n s =>
        rw [Rs.bind_ok]
        unfold mustR
        by_cases hm : wd s = [125]
        · rw [if_pos hm, Rs.bind_ok]
          have MY : Hid (∀ i2, s = L.drop i2 → ∀ X, RdAt X b g cap L i2 (o + 1) → Calls Tryd.prog 30 #[.pointer (some ⟨b, 0, none⟩), .string (bs [125])] X _) := fun i2 e2 X hX => must_yes X b g cap L i2 (o + 1) hX [125] (by decide) (by rw [← e2]; exact hm)
          clear hm
          go_enter Tryd.func83, Tryd.ntmps83
          go_wp2_with (first
            | (go_at_call 76; refine (BY.out _ (H.out.alloc _)).mono ?_; rintro e w1 ⟨rfl, s1⟩; have hs1 := s1.size; simp at hs1; have B1 : Hid (St w w1 b g cap L (i + 1) (o + 1)) := ((St.refl H.out).alloc _).next s1; have m1 : roomAt w1 w.heap.size 6 = true := (s1.room (by simp) (by omega) 6).trans (roomNd_new _ _ _ _ (by simp)))
            | (go_at_call 59; refine (node_any _ _ _ _ _ _).mono ?_; rintro e w2 ⟨rfl, hb2⟩; have hs2 := hb2.size; have m2 : roomAt w2 w.heap.size 6 = true := (roomAt_below hb2 _ _ (by omega)).trans m1; have B2 : Hid (St w w2 b g cap L (i + 1) (o + 1)) := B1.out.below hb2)
            | (go_at_call 39; refine (word_any _ b g cap L (i + 1) (o + 1) (B2.out.alloc _).rd).mono ?_; rintro e w3 ⟨rfl, hb3⟩; have hs3 := hb3.size; simp at hs3; have r3 : rowAt w3 w2.heap.size = some (⟨29, ⟨#[]⟩, 0, false, none, 0, 0, tk.tk.p⟩ : Nc).cells := (rowAt_below hb3 _ (by simp)).trans (rowAt_at _ _ _ _ _ rfl); have q3 : roomAt w3 w2.heap.size 6 = true := (roomAt_below hb3 _ _ (by simp)).trans (roomNd_new _ _ _ _ rfl); have m3 : roomAt w3 w.heap.size 6 = true := (roomAt_below hb3 _ _ (by simp; omega)).trans ((roomAt_old _ _ _ _ (by omega)).trans m2); have A3 : Hid (St w w3 b g cap L (i + 1) (o + 1)) := (B2.out.alloc _).below hb3)
            | (go_at_call 33; refine (RO.out _ A3.out.rd).mono ?_; rintro e w4 ⟨g4, m4', i4, rfl, ht4, hi4, s4, kd4, _, _, _⟩; have hs4 := s4.size; have rr : rowAt w4 w2.heap.size = some (⟨29, ⟨#[]⟩, 0, false, none, 0, 0, tk.tk.p⟩ : Nc).cells := (s4.row (by omega) (by omega)).trans r3; have qq : roomAt w4 w2.heap.size 6 = true := (s4.room (by omega) (by omega) 6).trans q3; have mm : roomAt w4 w.heap.size 6 = true := (s4.room (by omega) (by omega) 6).trans m3; have cc := rowAt_cell rr; have ff : w4.frozen? ⟨w2.heap.size, 4, none⟩ = false := (by have := (room_there qq 4 (by omega)).2; rwa [Nat.zero_add] at this); have r5 : rowAt (w4.setCell ⟨w2.heap.size, 4, none⟩ (.slice (some ⟨g4, 0, none⟩) n.kids.length m4')) w2.heap.size = some (⟨29, ⟨#[]⟩, 0, false, some ⟨g4, 0, none⟩, n.kids.length, m4', tk.tk.p⟩ : Nc).cells := rowAt_set _ _ _ _ _ rr; have m5 : roomAt (w4.setCell ⟨w2.heap.size, 4, none⟩ (.slice (some ⟨g4, 0, none⟩) n.kids.length m4')) w.heap.size 6 = true := (roomAt_far _ _ _ _ _ (by show w.heap.size ≠ w2.heap.size; omega)).trans mm; have A4 : Hid (St w (w4.setCell ⟨w2.heap.size, 4, none⟩ (.slice (some ⟨g4, 0, none⟩) n.kids.length m4')) b g cap L i4 (o + 1) ∧ KidsAt (w4.setCell ⟨w2.heap.size, 4, none⟩ (.slice (some ⟨g4, 0, none⟩) n.kids.length m4')) (fun x => w.heap.size + 1 ≤ x) (some ⟨g4, 0, none⟩) 0 n.kids ∧ i + 1 < i4 ∧ s = L.drop i4) := ⟨(A3.out.next s4).far bl gl _ 4 (by omega) _, kd4.keep (fun x hx _ => by omega) (by simp) (fun x hx hl => Below.heap_setCell _ _ _ _ (by show x ≠ w2.heap.size; omega)), hi4, ht4⟩; clear kd4 ht4 hi4 s4)
            | (go_at_call 30; refine (MY.out i4 A4.out.2.2.2 _ A4.out.1.rd).mono ?_; rintro e w6 ⟨rfl, s6⟩; have hs6 := s6.size; simp at hs6; have r6 : rowAt w6 w2.heap.size = _ := (s6.row (by simp; omega) (by omega)).trans r5; have m6 : roomAt w6 w.heap.size 6 = true := (s6.room (by simp; omega) (by omega) 6).trans m5; have A6 : Hid (St w w6 b g cap L (i4 + 1) (o + 1) ∧ KidsAt w6 (fun x => w.heap.size + 1 ≤ x) (some ⟨g4, 0, none⟩) 0 n.kids) := ⟨A4.out.1.next s6, A4.out.2.1.keep (fun x hx _ => hx) s6.size (fun x hx hl => s6.gb.block x hl (fun e => by injection e with e; omega))⟩)
            | (go_at_call 77; refine (end_any _ b g cap L (i4 + 1) o A6.out.1.rd).mono ?_; rintro e w7 ⟨rfl, s7⟩; have r7 : rowAt w7 w2.heap.size = _ := (s7.row (by omega) (by omega)).trans r6; have m7 : roomAt w7 w.heap.size 6 = true := (s7.room (by omega) (by omega) 6).trans m6; have A7 : Hid (St w w7 b g cap L (i4 + 1) o ∧ KidsAt w7 (fun x => w.heap.size + 1 ≤ x) (some ⟨g4, 0, none⟩) 0 n.kids) := ⟨A6.out.1.next s7, A6.out.2.keep (fun x hx _ => hx) s7.size (fun x hx hl => s7.gb.block x hl (fun e => by injection e with e; omega))⟩))
          have e8 := A4.out.2.2.1
          have e9 := A4.out.2.2.2
          exact ret_cell1 rfl rfl (loadNd_row (rowNd_put _ _ _ m7)) rfl (fin_post A7.out.1 bl gl (by omega) (by rw [e9, List.tail_drop]) (NdAt.mk 29 [] 0 false n.kids tk.p _ m4' A7.out.2))
        · rw [if_neg hm, Rs.bind_bad]
          have MN : Hid (∀ i2, s = L.drop i2 → ∀ X, RdAt X b g cap L i2 (o + 1) → Calls Tryd.prog 30 #[.pointer (some ⟨b, 0, none⟩), .string (bs [125])] X fun e w' => e = gaveUp (hd s).p 90 ∧ X.grownBy w' (some b)) := fun i2 e2 X hX => by rw [e2]; exact must_no X b g cap L i2 (o + 1) hX [125] (by rw [← e2]; exact hm)
          clear hm
          generalize (hd s).p = pp at MN ⊢
          go_enter Tryd.func83, Tryd.ntmps83
          go_wp2_with (first
            | (go_at_call 76; refine (BY.out _ (H.out.alloc _)).mono ?_; rintro e w1 ⟨rfl, s1⟩; have hs1 := s1.size; simp at hs1; have B1 : Hid (St w w1 b g cap L (i + 1) (o + 1)) := ((St.refl H.out).alloc _).next s1; have m1 : roomAt w1 w.heap.size 6 = true := (s1.room (by simp) (by omega) 6).trans (roomNd_new _ _ _ _ (by simp)))
            | (go_at_call 59; refine (node_any _ _ _ _ _ _).mono ?_; rintro e w2 ⟨rfl, hb2⟩; have hs2 := hb2.size; have m2 : roomAt w2 w.heap.size 6 = true := (roomAt_below hb2 _ _ (by omega)).trans m1; have B2 : Hid (St w w2 b g cap L (i + 1) (o + 1)) := B1.out.below hb2)
            | (go_at_call 39; refine (word_any _ b g cap L (i + 1) (o + 1) (B2.out.alloc _).rd).mono ?_; rintro e w3 ⟨rfl, hb3⟩; have hs3 := hb3.size; simp at hs3; have r3 : rowAt w3 w2.heap.size = some (⟨29, ⟨#[]⟩, 0, false, none, 0, 0, tk.tk.p⟩ : Nc).cells := (rowAt_below hb3 _ (by simp)).trans (rowAt_at _ _ _ _ _ rfl); have q3 : roomAt w3 w2.heap.size 6 = true := (roomAt_below hb3 _ _ (by simp)).trans (roomNd_new _ _ _ _ rfl); have m3 : roomAt w3 w.heap.size 6 = true := (roomAt_below hb3 _ _ (by simp; omega)).trans ((roomAt_old _ _ _ _ (by omega)).trans m2); have A3 : Hid (St w w3 b g cap L (i + 1) (o + 1)) := (B2.out.alloc _).below hb3)
            | (go_at_call 33; refine (RO.out _ A3.out.rd).mono ?_; rintro e w4 ⟨g4, m4', i4, rfl, ht4, hi4, s4, kd4, _, _, _⟩; have hs4 := s4.size; have rr : rowAt w4 w2.heap.size = some (⟨29, ⟨#[]⟩, 0, false, none, 0, 0, tk.tk.p⟩ : Nc).cells := (s4.row (by omega) (by omega)).trans r3; have qq : roomAt w4 w2.heap.size 6 = true := (s4.room (by omega) (by omega) 6).trans q3; have mm : roomAt w4 w.heap.size 6 = true := (s4.room (by omega) (by omega) 6).trans m3; have cc := rowAt_cell rr; have ff : w4.frozen? ⟨w2.heap.size, 4, none⟩ = false := (by have := (room_there qq 4 (by omega)).2; rwa [Nat.zero_add] at this); have r5 : rowAt (w4.setCell ⟨w2.heap.size, 4, none⟩ (.slice (some ⟨g4, 0, none⟩) n.kids.length m4')) w2.heap.size = some (⟨29, ⟨#[]⟩, 0, false, some ⟨g4, 0, none⟩, n.kids.length, m4', tk.tk.p⟩ : Nc).cells := rowAt_set _ _ _ _ _ rr; have m5 : roomAt (w4.setCell ⟨w2.heap.size, 4, none⟩ (.slice (some ⟨g4, 0, none⟩) n.kids.length m4')) w.heap.size 6 = true := (roomAt_far _ _ _ _ _ (by show w.heap.size ≠ w2.heap.size; omega)).trans mm; have A4 : Hid (St w (w4.setCell ⟨w2.heap.size, 4, none⟩ (.slice (some ⟨g4, 0, none⟩) n.kids.length m4')) b g cap L i4 (o + 1) ∧ KidsAt (w4.setCell ⟨w2.heap.size, 4, none⟩ (.slice (some ⟨g4, 0, none⟩) n.kids.length m4')) (fun x => w.heap.size + 1 ≤ x) (some ⟨g4, 0, none⟩) 0 n.kids ∧ i + 1 < i4 ∧ s = L.drop i4) := ⟨(A3.out.next s4).far bl gl _ 4 (by omega) _, kd4.keep (fun x hx _ => by omega) (by simp) (fun x hx hl => Below.heap_setCell _ _ _ _ (by show x ≠ w2.heap.size; omega)), hi4, ht4⟩; clear kd4 ht4 hi4 s4)
            | (go_at_call 30; refine (MN.out i4 A4.out.2.2.2 _ A4.out.1.rd).mono ?_; rintro e w6 ⟨he, g6⟩; unfold gaveUp at he; subst he))
          exact ⟨rfl, rfl, gb_trans A4.out.1.gb g6⟩
end Go.Proofs.YtllhcjmabhempaaDoor
