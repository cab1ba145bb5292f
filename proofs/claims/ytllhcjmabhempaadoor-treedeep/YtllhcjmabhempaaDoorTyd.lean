/-
  Layer 9: names and the type that they have.
-/
import Derived.Test.YtllhcjmabhempaaDoorPty
namespace Go.Proofs.YtllhcjmabhempaaDoor
set_option linter.unusedVariables false
set_option linter.unusedSimpArgs false
open Go.ChangeShapes Go.WideShapes Go.ChangeAt Go.RowKit


attribute [local go_sem] fieldTk0 fieldTk3 hmf
attribute [local go_sem ↓] bslNd_seal
attribute [local go_sem] bslNd1_run bslNd2_run
attribute [local go_sem ↓] appN_seal

theorem must_len2 {s : Bs} {t : List Tok} {x : Tok} {r : List Tok} (h : mustR s t = .ok x r) : r = t.tail := by
  unfold mustR at h
  split at h
  · injection h with _ e; exact e.symm
  · cases h
theorem Rw.sl {X : World} {B : Nat} {v : Value} {l : List Nd} {cs : List Nc} (h : Rw X B v l cs) (hl : 0 < l.length) : ∃ g' m N, v = .slice (some ⟨g', 0, none⟩) N m ∧ Hid (N = l.length) ∧ Hid (KidsAt X (fun x => B ≤ x) (some ⟨g', 0, none⟩) 0 l) := by
  have hcl := h.len
  have h' := h
  rcases h.own.2 with ⟨_, hz⟩ | ⟨g2, cp, cur, rfl, h1, h2, _⟩
  · omega
  · rw [hcl] at h'
    refine ⟨g2, cp, l.length, by rw [hcl], rfl, ?_⟩
    have := kids_from h' l.length 0 rfl (Nat.zero_le _)
    rw [List.drop_zero] at this
    exact this
theorem St.grow2 {w X Y : World} {b g cap i o B : Nat} {L : List Tok} {e : TypeId} {k n : Nat} {v : Value} {xs : List Value} (h : St w X b g cap L i o) (bl : b < w.heap.size) (gl : g < w.heap.size) (hB : w.heap.size ≤ B) (ho : X.ownsRow B e k v n xs) (hg : X.grownBy Y v.ownBlock) : St w Y b g cap L i o := by
  have far : ∀ q, q < w.heap.size → some q ≠ v.ownBlock := fun q hq e => by have := (own_lt' ho e.symm).2; omega
  exact ⟨h.rd.same (hg.block b h.rd.bl (far b bl)) (hg.block g h.rd.gl (far g gl)) hg.size, ⟨hg.os.trans h.gb.os, hg.tape.trans h.gb.tape, hg.output.trans h.gb.output, Nat.le_trans h.gb.size hg.size, fun q hq hne => (hg.block q (Nat.lt_of_lt_of_le hq h.gb.size) (far q hq)).trans (h.gb.block q hq hne)⟩⟩
theorem room_gbo {X Y : World} {ob : Option Nat} {q : Nat} (hg : X.grownBy Y ob) (hq : q < X.heap.size) (hne : some q ≠ ob) (n : Nat) : roomAt Y q n = roomAt X q n := by unfold roomAt; rw [hg.block q hq hne]
set_option maxHeartbeats 4000000 in
set_option maxRecDepth 20000 in
theorem typed_fields (w : World) (b g cap : Nat) (L : List Tok) (i o : Nat) (h : RdAt w b g cap L i o) (k : Int) (type : List Tok → Rs Nd) (hT : ∀ X j, i < j → RdAt X b g cap L j o → Calls Tryd.prog 55 #[.pointer (some ⟨b, 0, none⟩)] X (PostN X b g cap L j o (type (L.drop j)))) :
    Calls Tryd.prog 56 #[.pointer (some ⟨b, 0, none⟩), .int .i64 k, .func (.func 79) #[.pointer (some ⟨b, 0, none⟩)] #[], .func (.func 55) #[.pointer (some ⟨b, 0, none⟩)] #[]] w (PostN w b g cap L i o (typedR k (namedR 9) type (L.drop i))) := by
  have bl := h.bl
  have gl := h.gl
  have hil := h.il
  have hll := h.ll
  have H : Hid (RdAt w b g cap L i o) := h
  have HE : Hid (∀ X, RdAt X b g cap L i o → Calls Tryd.prog 28 #[.pointer (some ⟨b, 0, none⟩)] X _) := fun X hX => here_any X b g cap L i o hX
  have RO : Hid (∀ X, RdAt X b g cap L i o → Calls Tryd.prog 33 #[.pointer (some ⟨b, 0, none⟩), .string (bs [44]), .func (.func 79) #[.pointer (some ⟨b, 0, none⟩)] #[]] X (PostL X b g cap L i o (rowR [44] (namedR 9) ((L.drop i).length + 1) [] (L.drop i)))) := fun X hX => row_bareIdent (namedR 9) _ X b g cap L i o _ (by simp) hX (by rw [List.length_drop]; omega) (fun Y j _ hY => bareIdent_any Y b g cap L j o hY)
  obtain ⟨i0, hi0, hz0, hz1, hz2⟩ := info_parts infoNd
  unfold typedR
  generalize hd (L.drop i) = tk at HE ⊢
  clear h
  cases hr : rowR [44] (namedR 9) ((L.drop i).length + 1) [] (L.drop i) with
  | bad p er =>
    rw [hr] at RO
    rw [Rs.bind_bad]
    clear hr
    go_enter Tryd.func56, Tryd.ntmps56
    go_wp2_with (first
      | (go_at_call 28; refine (HE.out _ (H.out.alloc _)).mono ?_; rintro e w0 ⟨rfl, hb0⟩; have B0 : Hid (St w w0 b g cap L i o) := ((St.refl H.out).alloc _).below hb0; have hs0 := hb0.size; simp at hs0; have m0 : roomAt w0 w.heap.size 6 = true := (roomAt_below hb0 _ _ (by simp)).trans (roomNd_new _ _ _ _ (by simp)))
      | (go_at_call 33; refine (RO.out _ B0.out.rd).mono ?_; rintro e w1 ⟨he, g1⟩; unfold gaveUp at he; subst he))
    exact ⟨rfl, rfl, gb_trans B0.out.gb g1⟩
  | ok n r =>
    rw [hr] at RO
    rw [Rs.bind_ok]
    clear hr
    have MU : Hid (∀ X j, r = L.drop j → RdAt X b g cap L j o → Calls Tryd.prog 30 #[.pointer (some ⟨b, 0, none⟩), .string (bs [58])] X (PostT X b g cap L j o (mustR [58] r))) := fun X j e hX => by rw [e]; exact must_any X b g cap L j o hX _ (by simp)
    cases hm : mustR [58] r with
    | bad p er =>
      rw [hm] at MU
      rw [Rs.bind_bad]
      clear hm
      go_enter Tryd.func56, Tryd.ntmps56
      go_wp2_with (first
        | (go_at_call 28; refine (HE.out _ (H.out.alloc _)).mono ?_; rintro e w0 ⟨rfl, hb0⟩; have B0 : Hid (St w w0 b g cap L i o) := ((St.refl H.out).alloc _).below hb0; have hs0 := hb0.size; simp at hs0; have m0 : roomAt w0 w.heap.size 6 = true := (roomAt_below hb0 _ _ (by simp)).trans (roomNd_new _ _ _ _ (by simp)))
        | (go_at_call 33; refine (RO.out _ B0.out.rd).mono ?_; rintro e w1 ⟨g1, m1, i1, rfl, ht1, hi1, s1, _⟩; have B1 : Hid (St w w1 b g cap L i1 o) := B0.out.next s1)
        | (go_at_call 30; refine (MU.out _ i1 ht1 B1.out.rd).mono ?_; rintro e w2 ⟨he, g2⟩; unfold gaveUp at he; subst he))
      exact ⟨rfl, rfl, gb_trans B1.out.gb g2⟩
    | ok z r2 =>
      rw [hm] at MU
      rw [Rs.bind_ok]
      have hr2 : r2 = r.tail := must_len2 hm
      have TY : Hid (∀ X j, i < j → r = L.drop j → RdAt X b g cap L (j + 1) o → Calls Tryd.prog 55 #[.pointer (some ⟨b, 0, none⟩)] X (PostN X b g cap L (j + 1) o (type r2))) := fun X j hj e hX => by
        have := hT X (j + 1) (by omega) hX
        rwa [← List.tail_drop, ← e, ← hr2] at this
      clear hm hr2 hT
      generalize type r2 = R at TY ⊢
      cases R with
      | bad p er =>
        rw [Rs.bind_bad]
        go_enter Tryd.func56, Tryd.ntmps56
        go_wp2_with (first
          | (go_at_call 28; refine (HE.out _ (H.out.alloc _)).mono ?_; rintro e w0 ⟨rfl, hb0⟩; have B0 : Hid (St w w0 b g cap L i o) := ((St.refl H.out).alloc _).below hb0; have hs0 := hb0.size; simp at hs0; have m0 : roomAt w0 w.heap.size 6 = true := (roomAt_below hb0 _ _ (by simp)).trans (roomNd_new _ _ _ _ (by simp)))
          | (go_at_call 33; refine (RO.out _ B0.out.rd).mono ?_; rintro e w1 ⟨g1, m1, i1, rfl, ht1, hi1, s1, _⟩; have B1 : Hid (St w w1 b g cap L i1 o) := B0.out.next s1)
          | (go_at_call 30; refine (MU.out _ i1 ht1 B1.out.rd).mono ?_; rintro e w2 ⟨rfl, _, s2⟩; have B2 : Hid (St w w2 b g cap L (i1 + 1) o) := B1.out.next s2)
          | (go_at_call 55; refine (TY.out _ i1 hi1 ht1 B2.out.rd).mono ?_; rintro e w3 ⟨he, g3⟩; unfold gaveUp at he; subst he))
        exact ⟨rfl, rfl, gb_trans B2.out.gb g3⟩
      | ok x t =>
        rw [Rs.bind_ok]
        go_enter Tryd.func56, Tryd.ntmps56
        go_wp2_with (first
          | (go_at_call 28; refine (HE.out _ (H.out.alloc _)).mono ?_; rintro e w0 ⟨rfl, hb0⟩; have B0 : Hid (St w w0 b g cap L i o) := ((St.refl H.out).alloc _).below hb0; have hs0 := hb0.size; simp at hs0; have m0 : roomAt w0 w.heap.size 6 = true := (roomAt_below hb0 _ _ (by simp)).trans (roomNd_new _ _ _ _ (by simp)))
          | (go_at_call 33; refine (RO.out _ B0.out.rd).mono ?_; rintro e w1 ⟨g1, m1, i1, rfl, ht1, hi1, s1, _, hg1, hg1', cs, R1, hl0, hl1⟩; have hs1 := s1.size; have hil1 := s1.rd.il; have hcl : cs.length = n.kids.length := R1.len; have B1 : Hid (St w w1 b g cap L i1 o) := B0.out.next s1; have Q1 : Hid (Rw w1 w0.heap.size (.slice (some ⟨g1, 0, none⟩) n.kids.length m1) n.kids cs) := R1; have q1 : roomAt w1 w.heap.size 6 = true := (s1.room (by omega) (by omega) 6).trans m0; clear R1 s1)
          | (go_at_call 30; refine (MU.out _ i1 ht1 B1.out.rd).mono ?_; rintro e w2 ⟨rfl, _, s2⟩; have hs2 := s2.size; have B2 : Hid (St w w2 b g cap L (i1 + 1) o) := B1.out.next s2; have Q2 : Hid (Rw w2 w0.heap.size (.slice (some ⟨g1, 0, none⟩) n.kids.length m1) n.kids cs) := Q1.out.step (by omega) s2.gb; have q2 : roomAt w2 w.heap.size 6 = true := (s2.room (by omega) (by omega) 6).trans q1)
          | (go_at_call 55; refine (TY.out _ i1 hi1 ht1 B2.out.rd).mono ?_; rintro e w5 ⟨c5, i5, rfl, ht5, hi5, s5, nd5⟩; have hs5 := s5.size; have q5 : roomAt w5 w.heap.size 6 = true := (s5.room (by omega) (by omega) 6).trans q2; have R5 : Rw (w5.alloc (.cells c5.cells 31)) w0.heap.size (.slice (some ⟨g1, 0, none⟩) n.kids.length m1) n.kids cs := (Q2.out.step (by omega) s5.gb).step (by omega) (gb_of_below (by go_grown) b); have hi5l := s5.rd.il; obtain ⟨v6, w6, hrun6, hown6, hgrow6, _⟩ := run_append_own (P := Tryd.prog) (w := w5.alloc (.cells c5.cells 31)) w0.heap.size 29 29 31 i0 _ 6 72 Tryd.underlying29 hi0 hz0 hz1 hz2 rfl (by decide) (.slice (some ⟨g1, 0, none⟩) n.kids.length m1) cs.length _ R5.own ⟨w5.heap.size, 0, none⟩ 1 1 c5.cells.toList rfl (nd_cells _ _) (nd_one _) (by unfold maxLen; omega) (by omega) (by simp; omega); have hblk := append_block (P := Tryd.prog) (w := w5.alloc (.cells c5.cells 31)) w0.heap.size 29 29 31 i0 _ 6 72 Tryd.underlying29 hi0 hz0 hz1 hz2 (.slice (some ⟨g1, 0, none⟩) n.kids.length m1) cs.length _ R5.own ⟨w5.heap.size, 0, none⟩ 1 1 c5.cells.toList (by omega) rfl (nd_cells _ _) (nd_one _) (by unfold maxLen; omega) (by omega) hrun6; have R6 : Rw w6 w0.heap.size v6 (n.kids ++ [x]) (cs ++ [c5]) := R5.app hown6 hgrow6 hblk (nd5.keep (fun y hy hl => ⟨by omega, fun e => by simp only [Value.ownBlock] at e; injection e with e; omega⟩) (by simp) (fun y hy hl => ((Below.refl _ _).alloc (Nat.le_refl _) _).block y hl)); have S6 : Hid (St w w6 b g cap L i5 o ∧ t = L.drop i5 ∧ i1 + 1 < i5) := ⟨(St.grow2 ((B2.out.next s5).alloc _) bl gl (by omega) R5.own hgrow6), ht5, hi5⟩; have q6 : roomAt w6 w.heap.size 6 = true := (room_gbo hgrow6 (by simp; omega) (fun e => by simp only [Value.ownBlock] at e; injection e with e; omega) 6).trans ((roomAt_old _ _ _ _ (by omega)).trans q5); have hs6 := hgrow6.size; simp at hs6; obtain ⟨g6, m6, N6, rfl, hN6, K6⟩ := R6.sl (by simp); rw [appN_seal] at hrun6; clear hown6 hgrow6 hblk R5 R6 nd5 s5 ht5 hi5)
          | (go_at_call 59; refine (node_any _ _ _ _ _ _).mono ?_; rintro e w7 ⟨rfl, hb7⟩; have hs7 := hb7.size; have q7 : roomAt w7 w.heap.size 6 = true := (roomAt_below hb7 _ _ (by omega)).trans q6))
        have hn := hN6.out
        subst hn
        have K7 : KidsAt w7 (fun x => w.heap.size + 1 ≤ x) (some ⟨g6, 0, none⟩) 0 (n.kids ++ [x]) := K6.out.keep (fun y hy _ => by omega) hs7 (fun y hy hl => hb7.block y hl)
        have e1 := S6.out.2.2
        exact ret_cell1 rfl rfl (loadNd_row (rowNd_put _ _ _ q7)) rfl (fin_post (i := i) (S6.out.1.below hb7) bl gl (by omega) S6.out.2.1 (NdAt.mk k [] 0 false (n.kids ++ [x]) tk.p _ m6 K7))
set_option maxHeartbeats 4000000 in
set_option maxRecDepth 20000 in
theorem typed_vars (w : World) (b g cap : Nat) (L : List Tok) (i o : Nat) (h : RdAt w b g cap L i o) (k : Int) (type : List Tok → Rs Nd) (hT : ∀ X j, i < j → RdAt X b g cap L j o → Calls Tryd.prog 55 #[.pointer (some ⟨b, 0, none⟩)] X (PostN X b g cap L j o (type (L.drop j)))) :
    Calls Tryd.prog 56 #[.pointer (some ⟨b, 0, none⟩), .int .i64 k, .func (.func 57) #[.pointer (some ⟨b, 0, none⟩)] #[], .func (.func 55) #[.pointer (some ⟨b, 0, none⟩)] #[]] w (PostN w b g cap L i o (typedR k (markedR 9) type (L.drop i))) := by
  have bl := h.bl
  have gl := h.gl
  have hil := h.il
  have hll := h.ll
  have H : Hid (RdAt w b g cap L i o) := h
  have HE : Hid (∀ X, RdAt X b g cap L i o → Calls Tryd.prog 28 #[.pointer (some ⟨b, 0, none⟩)] X _) := fun X hX => here_any X b g cap L i o hX
  have RO : Hid (∀ X, RdAt X b g cap L i o → Calls Tryd.prog 33 #[.pointer (some ⟨b, 0, none⟩), .string (bs [44]), .func (.func 57) #[.pointer (some ⟨b, 0, none⟩)] #[]] X (PostL X b g cap L i o (rowR [44] (markedR 9) ((L.drop i).length + 1) [] (L.drop i)))) := fun X hX => row_markedIdent (markedR 9) _ X b g cap L i o _ (by simp) hX (by rw [List.length_drop]; omega) (fun Y j _ hY => markedIdent_any Y b g cap L j o hY)
  obtain ⟨i0, hi0, hz0, hz1, hz2⟩ := info_parts infoNd
  unfold typedR
  generalize hd (L.drop i) = tk at HE ⊢
  clear h
  cases hr : rowR [44] (markedR 9) ((L.drop i).length + 1) [] (L.drop i) with
  | bad p er =>
    rw [hr] at RO
    rw [Rs.bind_bad]
    clear hr
    go_enter Tryd.func56, Tryd.ntmps56
    go_wp2_with (first
      | (go_at_call 28; refine (HE.out _ (H.out.alloc _)).mono ?_; rintro e w0 ⟨rfl, hb0⟩; have B0 : Hid (St w w0 b g cap L i o) := ((St.refl H.out).alloc _).below hb0; have hs0 := hb0.size; simp at hs0; have m0 : roomAt w0 w.heap.size 6 = true := (roomAt_below hb0 _ _ (by simp)).trans (roomNd_new _ _ _ _ (by simp)))
      | (go_at_call 33; refine (RO.out _ B0.out.rd).mono ?_; rintro e w1 ⟨he, g1⟩; unfold gaveUp at he; subst he))
    exact ⟨rfl, rfl, gb_trans B0.out.gb g1⟩
  | ok n r =>
    rw [hr] at RO
    rw [Rs.bind_ok]
    clear hr
    have MU : Hid (∀ X j, r = L.drop j → RdAt X b g cap L j o → Calls Tryd.prog 30 #[.pointer (some ⟨b, 0, none⟩), .string (bs [58])] X (PostT X b g cap L j o (mustR [58] r))) := fun X j e hX => by rw [e]; exact must_any X b g cap L j o hX _ (by simp)
    cases hm : mustR [58] r with
    | bad p er =>
      rw [hm] at MU
      rw [Rs.bind_bad]
      clear hm
      go_enter Tryd.func56, Tryd.ntmps56
      go_wp2_with (first
        | (go_at_call 28; refine (HE.out _ (H.out.alloc _)).mono ?_; rintro e w0 ⟨rfl, hb0⟩; have B0 : Hid (St w w0 b g cap L i o) := ((St.refl H.out).alloc _).below hb0; have hs0 := hb0.size; simp at hs0; have m0 : roomAt w0 w.heap.size 6 = true := (roomAt_below hb0 _ _ (by simp)).trans (roomNd_new _ _ _ _ (by simp)))
        | (go_at_call 33; refine (RO.out _ B0.out.rd).mono ?_; rintro e w1 ⟨g1, m1, i1, rfl, ht1, hi1, s1, _⟩; have B1 : Hid (St w w1 b g cap L i1 o) := B0.out.next s1)
        | (go_at_call 30; refine (MU.out _ i1 ht1 B1.out.rd).mono ?_; rintro e w2 ⟨he, g2⟩; unfold gaveUp at he; subst he))
      exact ⟨rfl, rfl, gb_trans B1.out.gb g2⟩
    | ok z r2 =>
      rw [hm] at MU
      rw [Rs.bind_ok]
      have hr2 : r2 = r.tail := must_len2 hm
      have TY : Hid (∀ X j, i < j → r = L.drop j → RdAt X b g cap L (j + 1) o → Calls Tryd.prog 55 #[.pointer (some ⟨b, 0, none⟩)] X (PostN X b g cap L (j + 1) o (type r2))) := fun X j hj e hX => by
        have := hT X (j + 1) (by omega) hX
        rwa [← List.tail_drop, ← e, ← hr2] at this
      clear hm hr2 hT
      generalize type r2 = R at TY ⊢
      cases R with
      | bad p er =>
        rw [Rs.bind_bad]
        go_enter Tryd.func56, Tryd.ntmps56
        go_wp2_with (first
          | (go_at_call 28; refine (HE.out _ (H.out.alloc _)).mono ?_; rintro e w0 ⟨rfl, hb0⟩; have B0 : Hid (St w w0 b g cap L i o) := ((St.refl H.out).alloc _).below hb0; have hs0 := hb0.size; simp at hs0; have m0 : roomAt w0 w.heap.size 6 = true := (roomAt_below hb0 _ _ (by simp)).trans (roomNd_new _ _ _ _ (by simp)))
          | (go_at_call 33; refine (RO.out _ B0.out.rd).mono ?_; rintro e w1 ⟨g1, m1, i1, rfl, ht1, hi1, s1, _⟩; have B1 : Hid (St w w1 b g cap L i1 o) := B0.out.next s1)
          | (go_at_call 30; refine (MU.out _ i1 ht1 B1.out.rd).mono ?_; rintro e w2 ⟨rfl, _, s2⟩; have B2 : Hid (St w w2 b g cap L (i1 + 1) o) := B1.out.next s2)
          | (go_at_call 55; refine (TY.out _ i1 hi1 ht1 B2.out.rd).mono ?_; rintro e w3 ⟨he, g3⟩; unfold gaveUp at he; subst he))
        exact ⟨rfl, rfl, gb_trans B2.out.gb g3⟩
      | ok x t =>
        rw [Rs.bind_ok]
        go_enter Tryd.func56, Tryd.ntmps56
        go_wp2_with (first
          | (go_at_call 28; refine (HE.out _ (H.out.alloc _)).mono ?_; rintro e w0 ⟨rfl, hb0⟩; have B0 : Hid (St w w0 b g cap L i o) := ((St.refl H.out).alloc _).below hb0; have hs0 := hb0.size; simp at hs0; have m0 : roomAt w0 w.heap.size 6 = true := (roomAt_below hb0 _ _ (by simp)).trans (roomNd_new _ _ _ _ (by simp)))
          | (go_at_call 33; refine (RO.out _ B0.out.rd).mono ?_; rintro e w1 ⟨g1, m1, i1, rfl, ht1, hi1, s1, _, hg1, hg1', cs, R1, hl0, hl1⟩; have hs1 := s1.size; have hil1 := s1.rd.il; have hcl : cs.length = n.kids.length := R1.len; have B1 : Hid (St w w1 b g cap L i1 o) := B0.out.next s1; have Q1 : Hid (Rw w1 w0.heap.size (.slice (some ⟨g1, 0, none⟩) n.kids.length m1) n.kids cs) := R1; have q1 : roomAt w1 w.heap.size 6 = true := (s1.room (by omega) (by omega) 6).trans m0; clear R1 s1)
          | (go_at_call 30; refine (MU.out _ i1 ht1 B1.out.rd).mono ?_; rintro e w2 ⟨rfl, _, s2⟩; have hs2 := s2.size; have B2 : Hid (St w w2 b g cap L (i1 + 1) o) := B1.out.next s2; have Q2 : Hid (Rw w2 w0.heap.size (.slice (some ⟨g1, 0, none⟩) n.kids.length m1) n.kids cs) := Q1.out.step (by omega) s2.gb; have q2 : roomAt w2 w.heap.size 6 = true := (s2.room (by omega) (by omega) 6).trans q1)
          | (go_at_call 55; refine (TY.out _ i1 hi1 ht1 B2.out.rd).mono ?_; rintro e w5 ⟨c5, i5, rfl, ht5, hi5, s5, nd5⟩; have hs5 := s5.size; have q5 : roomAt w5 w.heap.size 6 = true := (s5.room (by omega) (by omega) 6).trans q2; have R5 : Rw (w5.alloc (.cells c5.cells 31)) w0.heap.size (.slice (some ⟨g1, 0, none⟩) n.kids.length m1) n.kids cs := (Q2.out.step (by omega) s5.gb).step (by omega) (gb_of_below (by go_grown) b); have hi5l := s5.rd.il; obtain ⟨v6, w6, hrun6, hown6, hgrow6, _⟩ := run_append_own (P := Tryd.prog) (w := w5.alloc (.cells c5.cells 31)) w0.heap.size 29 29 31 i0 _ 6 72 Tryd.underlying29 hi0 hz0 hz1 hz2 rfl (by decide) (.slice (some ⟨g1, 0, none⟩) n.kids.length m1) cs.length _ R5.own ⟨w5.heap.size, 0, none⟩ 1 1 c5.cells.toList rfl (nd_cells _ _) (nd_one _) (by unfold maxLen; omega) (by omega) (by simp; omega); have hblk := append_block (P := Tryd.prog) (w := w5.alloc (.cells c5.cells 31)) w0.heap.size 29 29 31 i0 _ 6 72 Tryd.underlying29 hi0 hz0 hz1 hz2 (.slice (some ⟨g1, 0, none⟩) n.kids.length m1) cs.length _ R5.own ⟨w5.heap.size, 0, none⟩ 1 1 c5.cells.toList (by omega) rfl (nd_cells _ _) (nd_one _) (by unfold maxLen; omega) (by omega) hrun6; have R6 : Rw w6 w0.heap.size v6 (n.kids ++ [x]) (cs ++ [c5]) := R5.app hown6 hgrow6 hblk (nd5.keep (fun y hy hl => ⟨by omega, fun e => by simp only [Value.ownBlock] at e; injection e with e; omega⟩) (by simp) (fun y hy hl => ((Below.refl _ _).alloc (Nat.le_refl _) _).block y hl)); have S6 : Hid (St w w6 b g cap L i5 o ∧ t = L.drop i5 ∧ i1 + 1 < i5) := ⟨(St.grow2 ((B2.out.next s5).alloc _) bl gl (by omega) R5.own hgrow6), ht5, hi5⟩; have q6 : roomAt w6 w.heap.size 6 = true := (room_gbo hgrow6 (by simp; omega) (fun e => by simp only [Value.ownBlock] at e; injection e with e; omega) 6).trans ((roomAt_old _ _ _ _ (by omega)).trans q5); have hs6 := hgrow6.size; simp at hs6; obtain ⟨g6, m6, N6, rfl, hN6, K6⟩ := R6.sl (by simp); rw [appN_seal] at hrun6; clear hown6 hgrow6 hblk R5 R6 nd5 s5 ht5 hi5)
          | (go_at_call 59; refine (node_any _ _ _ _ _ _).mono ?_; rintro e w7 ⟨rfl, hb7⟩; have hs7 := hb7.size; have q7 : roomAt w7 w.heap.size 6 = true := (roomAt_below hb7 _ _ (by omega)).trans q6))
        have hn := hN6.out
        subst hn
        have K7 : KidsAt w7 (fun x => w.heap.size + 1 ≤ x) (some ⟨g6, 0, none⟩) 0 (n.kids ++ [x]) := K6.out.keep (fun y hy _ => by omega) hs7 (fun y hy hl => hb7.block y hl)
        have e1 := S6.out.2.2
        exact ret_cell1 rfl rfl (loadNd_row (rowNd_put _ _ _ q7)) rfl (fin_post (i := i) (S6.out.1.below hb7) bl gl (by omega) S6.out.2.1 (NdAt.mk k [] 0 false (n.kids ++ [x]) tk.p _ m6 K7))
set_option maxHeartbeats 4000000 in
set_option maxRecDepth 20000 in
theorem typed_params (w : World) (b g cap : Nat) (L : List Tok) (i o : Nat) (h : RdAt w b g cap L i o) (k : Int) (type : List Tok → Rs Nd) (hT : ∀ X j, i < j → RdAt X b g cap L j o → Calls Tryd.prog 80 #[.pointer (some ⟨b, 0, none⟩)] X (PostN X b g cap L j o (type (L.drop j)))) :
    Calls Tryd.prog 56 #[.pointer (some ⟨b, 0, none⟩), .int .i64 k, .func (.func 79) #[.pointer (some ⟨b, 0, none⟩)] #[], .func (.func 80) #[.pointer (some ⟨b, 0, none⟩)] #[]] w (PostN w b g cap L i o (typedR k (namedR 9) type (L.drop i))) := by
  have bl := h.bl
  have gl := h.gl
  have hil := h.il
  have hll := h.ll
  have H : Hid (RdAt w b g cap L i o) := h
  have HE : Hid (∀ X, RdAt X b g cap L i o → Calls Tryd.prog 28 #[.pointer (some ⟨b, 0, none⟩)] X _) := fun X hX => here_any X b g cap L i o hX
  have RO : Hid (∀ X, RdAt X b g cap L i o → Calls Tryd.prog 33 #[.pointer (some ⟨b, 0, none⟩), .string (bs [44]), .func (.func 79) #[.pointer (some ⟨b, 0, none⟩)] #[]] X (PostL X b g cap L i o (rowR [44] (namedR 9) ((L.drop i).length + 1) [] (L.drop i)))) := fun X hX => row_bareIdent (namedR 9) _ X b g cap L i o _ (by simp) hX (by rw [List.length_drop]; omega) (fun Y j _ hY => bareIdent_any Y b g cap L j o hY)
  obtain ⟨i0, hi0, hz0, hz1, hz2⟩ := info_parts infoNd
  unfold typedR
  generalize hd (L.drop i) = tk at HE ⊢
  clear h
  cases hr : rowR [44] (namedR 9) ((L.drop i).length + 1) [] (L.drop i) with
  | bad p er =>
    rw [hr] at RO
    rw [Rs.bind_bad]
    clear hr
    go_enter Tryd.func56, Tryd.ntmps56
    go_wp2_with (first
      | (go_at_call 28; refine (HE.out _ (H.out.alloc _)).mono ?_; rintro e w0 ⟨rfl, hb0⟩; have B0 : Hid (St w w0 b g cap L i o) := ((St.refl H.out).alloc _).below hb0; have hs0 := hb0.size; simp at hs0; have m0 : roomAt w0 w.heap.size 6 = true := (roomAt_below hb0 _ _ (by simp)).trans (roomNd_new _ _ _ _ (by simp)))
      | (go_at_call 33; refine (RO.out _ B0.out.rd).mono ?_; rintro e w1 ⟨he, g1⟩; unfold gaveUp at he; subst he))
    exact ⟨rfl, rfl, gb_trans B0.out.gb g1⟩
  | ok n r =>
    rw [hr] at RO
    rw [Rs.bind_ok]
    clear hr
    have MU : Hid (∀ X j, r = L.drop j → RdAt X b g cap L j o → Calls Tryd.prog 30 #[.pointer (some ⟨b, 0, none⟩), .string (bs [58])] X (PostT X b g cap L j o (mustR [58] r))) := fun X j e hX => by rw [e]; exact must_any X b g cap L j o hX _ (by simp)
    cases hm : mustR [58] r with
    | bad p er =>
      rw [hm] at MU
      rw [Rs.bind_bad]
      clear hm
      go_enter Tryd.func56, Tryd.ntmps56
      go_wp2_with (first
        | (go_at_call 28; refine (HE.out _ (H.out.alloc _)).mono ?_; rintro e w0 ⟨rfl, hb0⟩; have B0 : Hid (St w w0 b g cap L i o) := ((St.refl H.out).alloc _).below hb0; have hs0 := hb0.size; simp at hs0; have m0 : roomAt w0 w.heap.size 6 = true := (roomAt_below hb0 _ _ (by simp)).trans (roomNd_new _ _ _ _ (by simp)))
        | (go_at_call 33; refine (RO.out _ B0.out.rd).mono ?_; rintro e w1 ⟨g1, m1, i1, rfl, ht1, hi1, s1, _⟩; have B1 : Hid (St w w1 b g cap L i1 o) := B0.out.next s1)
        | (go_at_call 30; refine (MU.out _ i1 ht1 B1.out.rd).mono ?_; rintro e w2 ⟨he, g2⟩; unfold gaveUp at he; subst he))
      exact ⟨rfl, rfl, gb_trans B1.out.gb g2⟩
    | ok z r2 =>
      rw [hm] at MU
      rw [Rs.bind_ok]
      have hr2 : r2 = r.tail := must_len2 hm
      have TY : Hid (∀ X j, i < j → r = L.drop j → RdAt X b g cap L (j + 1) o → Calls Tryd.prog 80 #[.pointer (some ⟨b, 0, none⟩)] X (PostN X b g cap L (j + 1) o (type r2))) := fun X j hj e hX => by
        have := hT X (j + 1) (by omega) hX
        rwa [← List.tail_drop, ← e, ← hr2] at this
      clear hm hr2 hT
      generalize type r2 = R at TY ⊢
      cases R with
      | bad p er =>
        rw [Rs.bind_bad]
        go_enter Tryd.func56, Tryd.ntmps56
        go_wp2_with (first
          | (go_at_call 28; refine (HE.out _ (H.out.alloc _)).mono ?_; rintro e w0 ⟨rfl, hb0⟩; have B0 : Hid (St w w0 b g cap L i o) := ((St.refl H.out).alloc _).below hb0; have hs0 := hb0.size; simp at hs0; have m0 : roomAt w0 w.heap.size 6 = true := (roomAt_below hb0 _ _ (by simp)).trans (roomNd_new _ _ _ _ (by simp)))
          | (go_at_call 33; refine (RO.out _ B0.out.rd).mono ?_; rintro e w1 ⟨g1, m1, i1, rfl, ht1, hi1, s1, _⟩; have B1 : Hid (St w w1 b g cap L i1 o) := B0.out.next s1)
          | (go_at_call 30; refine (MU.out _ i1 ht1 B1.out.rd).mono ?_; rintro e w2 ⟨rfl, _, s2⟩; have B2 : Hid (St w w2 b g cap L (i1 + 1) o) := B1.out.next s2)
          | (go_at_call 80; refine (TY.out _ i1 hi1 ht1 B2.out.rd).mono ?_; rintro e w3 ⟨he, g3⟩; unfold gaveUp at he; subst he))
        exact ⟨rfl, rfl, gb_trans B2.out.gb g3⟩
      | ok x t =>
        rw [Rs.bind_ok]
        go_enter Tryd.func56, Tryd.ntmps56
        go_wp2_with (first
          | (go_at_call 28; refine (HE.out _ (H.out.alloc _)).mono ?_; rintro e w0 ⟨rfl, hb0⟩; have B0 : Hid (St w w0 b g cap L i o) := ((St.refl H.out).alloc _).below hb0; have hs0 := hb0.size; simp at hs0; have m0 : roomAt w0 w.heap.size 6 = true := (roomAt_below hb0 _ _ (by simp)).trans (roomNd_new _ _ _ _ (by simp)))
          | (go_at_call 33; refine (RO.out _ B0.out.rd).mono ?_; rintro e w1 ⟨g1, m1, i1, rfl, ht1, hi1, s1, _, hg1, hg1', cs, R1, hl0, hl1⟩; have hs1 := s1.size; have hil1 := s1.rd.il; have hcl : cs.length = n.kids.length := R1.len; have B1 : Hid (St w w1 b g cap L i1 o) := B0.out.next s1; have Q1 : Hid (Rw w1 w0.heap.size (.slice (some ⟨g1, 0, none⟩) n.kids.length m1) n.kids cs) := R1; have q1 : roomAt w1 w.heap.size 6 = true := (s1.room (by omega) (by omega) 6).trans m0; clear R1 s1)
          | (go_at_call 30; refine (MU.out _ i1 ht1 B1.out.rd).mono ?_; rintro e w2 ⟨rfl, _, s2⟩; have hs2 := s2.size; have B2 : Hid (St w w2 b g cap L (i1 + 1) o) := B1.out.next s2; have Q2 : Hid (Rw w2 w0.heap.size (.slice (some ⟨g1, 0, none⟩) n.kids.length m1) n.kids cs) := Q1.out.step (by omega) s2.gb; have q2 : roomAt w2 w.heap.size 6 = true := (s2.room (by omega) (by omega) 6).trans q1)
          | (go_at_call 80; refine (TY.out _ i1 hi1 ht1 B2.out.rd).mono ?_; rintro e w5 ⟨c5, i5, rfl, ht5, hi5, s5, nd5⟩; have hs5 := s5.size; have q5 : roomAt w5 w.heap.size 6 = true := (s5.room (by omega) (by omega) 6).trans q2; have R5 : Rw (w5.alloc (.cells c5.cells 31)) w0.heap.size (.slice (some ⟨g1, 0, none⟩) n.kids.length m1) n.kids cs := (Q2.out.step (by omega) s5.gb).step (by omega) (gb_of_below (by go_grown) b); have hi5l := s5.rd.il; obtain ⟨v6, w6, hrun6, hown6, hgrow6, _⟩ := run_append_own (P := Tryd.prog) (w := w5.alloc (.cells c5.cells 31)) w0.heap.size 29 29 31 i0 _ 6 72 Tryd.underlying29 hi0 hz0 hz1 hz2 rfl (by decide) (.slice (some ⟨g1, 0, none⟩) n.kids.length m1) cs.length _ R5.own ⟨w5.heap.size, 0, none⟩ 1 1 c5.cells.toList rfl (nd_cells _ _) (nd_one _) (by unfold maxLen; omega) (by omega) (by simp; omega); have hblk := append_block (P := Tryd.prog) (w := w5.alloc (.cells c5.cells 31)) w0.heap.size 29 29 31 i0 _ 6 72 Tryd.underlying29 hi0 hz0 hz1 hz2 (.slice (some ⟨g1, 0, none⟩) n.kids.length m1) cs.length _ R5.own ⟨w5.heap.size, 0, none⟩ 1 1 c5.cells.toList (by omega) rfl (nd_cells _ _) (nd_one _) (by unfold maxLen; omega) (by omega) hrun6; have R6 : Rw w6 w0.heap.size v6 (n.kids ++ [x]) (cs ++ [c5]) := R5.app hown6 hgrow6 hblk (nd5.keep (fun y hy hl => ⟨by omega, fun e => by simp only [Value.ownBlock] at e; injection e with e; omega⟩) (by simp) (fun y hy hl => ((Below.refl _ _).alloc (Nat.le_refl _) _).block y hl)); have S6 : Hid (St w w6 b g cap L i5 o ∧ t = L.drop i5 ∧ i1 + 1 < i5) := ⟨(St.grow2 ((B2.out.next s5).alloc _) bl gl (by omega) R5.own hgrow6), ht5, hi5⟩; have q6 : roomAt w6 w.heap.size 6 = true := (room_gbo hgrow6 (by simp; omega) (fun e => by simp only [Value.ownBlock] at e; injection e with e; omega) 6).trans ((roomAt_old _ _ _ _ (by omega)).trans q5); have hs6 := hgrow6.size; simp at hs6; obtain ⟨g6, m6, N6, rfl, hN6, K6⟩ := R6.sl (by simp); rw [appN_seal] at hrun6; clear hown6 hgrow6 hblk R5 R6 nd5 s5 ht5 hi5)
          | (go_at_call 59; refine (node_any _ _ _ _ _ _).mono ?_; rintro e w7 ⟨rfl, hb7⟩; have hs7 := hb7.size; have q7 : roomAt w7 w.heap.size 6 = true := (roomAt_below hb7 _ _ (by omega)).trans q6))
        have hn := hN6.out
        subst hn
        have K7 : KidsAt w7 (fun x => w.heap.size + 1 ≤ x) (some ⟨g6, 0, none⟩) 0 (n.kids ++ [x]) := K6.out.keep (fun y hy _ => by omega) hs7 (fun y hy hl => hb7.block y hl)
        have e1 := S6.out.2.2
        exact ret_cell1 rfl rfl (loadNd_row (rowNd_put _ _ _ q7)) rfl (fin_post (i := i) (S6.out.1.below hb7) bl gl (by omega) S6.out.2.1 (NdAt.mk k [] 0 false (n.kids ++ [x]) tk.p _ m6 K7))
end Go.Proofs.YtllhcjmabhempaaDoor
