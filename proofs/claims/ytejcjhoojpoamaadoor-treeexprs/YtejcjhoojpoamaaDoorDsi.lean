/-
  Layer 9, the document's: a sign ahead.
-/
import Derived.Test.YtejcjhoojpoamaaDoorDex
import Derived.Test.YtejcjhoojpoamaaDoorFld
namespace Go.Proofs.YtejcjhoojpoamaaDoor
set_option linter.unusedVariables false
set_option linter.unusedSimpArgs false
open Go.ChangeShapes Go.WideShapes Go.ChangeAt Go.RowKit
attribute [local go_sem ↓] loadTk_seal storeTk_seal loadKeys_seal loadSigns_seal
attribute [local go_sem] loadTk_run storeTk_run rowAt_at rowAt_old rowAt_drew rowAt_drewN roomTk_new roomAt_old roomAt_drew roomAt_drewN putTk_new Tk.fold putRow_past rowTk_put size_put putRow_drew putRow_drewN alloc_drewN setCell_drewN Tk.at0 Tk.at1 Tk.at2 Tk.at3 Tk.size Tk.set0 Tk.set1 Tk.set2 Tk.set3 Tk.ne rowAt_set rowAt_far roomAt_far
attribute [local go_sem ↓] loadNd_seal storeNd_seal
attribute [local go_sem] loadNd_run storeNd_run roomNd_new putNd_new Nc.fold rowNd_put Nc.at0 Nc.at1 Nc.at2 Nc.at3 Nc.at4 Nc.at5 Nc.size Nc.set0 Nc.set1 Nc.set2 Nc.set3 Nc.set4 Nc.set5 Nc.ne
attribute [local go_sem] fieldTk0 fieldTk3
attribute [local go_sem ↓] bslNd_seal
attribute [local go_sem] bslNd1_run bslNd2_run

set_option maxHeartbeats 4000000 in
set_option maxRecDepth 20000 in
theorem signed_term (f : Nat) (hT : Pd 78 .term f) (w : World) (b g cap : Nat) (L : List Tok) (i o : Nat) (h : DAt w b g cap L i (o : Int) 0 0) (ho : o ≤ 24) (hok : ∀ x ∈ L, okT x) (hk0 : (hd (L.drop i)).k ≠ 0) (hf : (L.length - i) * 40 ≤ f + 26) :
    Calls Tryd.prog 77 #[.pointer (some ⟨b, 0, none⟩), .bool true] w (PostD w b g cap L i o ((beginR o (L.drop i)).bind fun x r => (run f .term (o + 1) r).bind fun y s => .ok (unN x y) s)) := by
  have bl := h.bl
  have gl := h.gl
  have hil := h.il
  have hll := h.ll
  have H : Hid (DAt w b g cap L i (o : Int) 0 0) := h
  unfold beginR
  by_cases ho24 : o = 24
  · subst ho24
    rw [if_pos rfl, Rs.bind_bad]
    have OP : Hid (∀ X, DAt X b g cap L i 24 0 0 → Calls Tryd.prog 98 #[.pointer (some ⟨b, 0, none⟩), .int .i64 1] X _) := fun X hX => opens_f X b g cap L i hX
    clear h hT hok
    generalize (hd (L.drop i)).p = pp at OP ⊢
    go_enter Tryd.func77, Tryd.ntmps77
    go_wp2_with (go_at_call 98; refine (OP.out _ (H.out.alloc _)).mono ?_; rintro e w1 ⟨rfl, s1⟩; have hs1 := s1.size; simp at hs1; have hl1 : w.heap.size < w1.heap.size := (by omega); have A1 : Hid (Ds w w1 b g cap L i 24 91 (pp : Int)) := ((Ds.refl H.out).alloc _).next s1; have c31 := s1.rd.c3; have l1 := s1.rd.bl; have m1 : roomAt w1 w.heap.size 6 = true := (s1.room (by simp) (by omega) 6).trans (roomNd_new _ _ _ _ (by simp)))
    exact ret_cell1 rfl rfl (loadNd_row ((rowAt_old _ _ _ (by rw [size_put]; omega)).trans (rowNd_put _ _ _ m1))) rfl ⟨_, i, 24, rfl, by decide, (A1.out.old bl gl _ (Nat.le_refl _) _).alloc _⟩
  · rw [if_neg ho24, Rs.bind_ok, List.tail_drop]
    have OP : Hid (∀ X, DAt X b g cap L i (o : Int) 0 0 → Calls Tryd.prog 98 #[.pointer (some ⟨b, 0, none⟩), .int .i64 1] X _) := fun X hX => opens_t X b g cap L i o hX (by omega) hk0
    have TT : Hid (∀ X, DAt X b g cap L (i + 1) ((o : Int) + 1) 0 0 → Calls Tryd.prog 78 #[.pointer (some ⟨b, 0, none⟩)] X (PostD X b g cap L (i + 1) (o + 1) (run f .term (o + 1) (L.drop (i + 1))))) := fun X hX => hT X b g cap L (i + 1) (o + 1) (by simpa using hX) (by omega) hok (by show (L.length - (i + 1)) * 40 + 14 ≤ f; omega)
    clear h hT hok hk0
    obtain ⟨tk, htk⟩ : ∃ tk, tk = hd (L.drop i) := ⟨_, rfl⟩
    rw [← htk] at OP ⊢
    clear htk
    generalize run f .term (o + 1) (L.drop (i + 1)) = R at TT ⊢
    cases R with
    | bad p er =>
      rw [Rs.bind_bad]
      go_enter Tryd.func77, Tryd.ntmps77
      go_wp2_with (first
        | (go_at_call 98; refine (OP.out _ (H.out.alloc _)).mono ?_; rintro e w1 ⟨rfl, s1⟩; have hs1 := s1.size; simp at hs1; have hl1 : w.heap.size < w1.heap.size := (by omega); have A1 : Hid (Ds w w1 b g cap L (i + 1) ((o : Int) + 1) 0 0) := ((Ds.refl H.out).alloc _).next s1; have c31 := s1.rd.c3; have l1 := s1.rd.bl; have m1 : roomAt w1 w.heap.size 6 = true := (s1.room (by simp) (by omega) 6).trans (roomNd_new _ _ _ _ (by simp)))
        | (go_at_call 78; refine (TT.out _ ((A1.out.alloc _).alloc _).rd).mono ?_; rintro e w5 ⟨c5, i5, o5, rfl, he5, s5⟩; have hs5 := s5.size; simp at hs5; have hl5 : w.heap.size < w5.heap.size := (by omega); have hl15 : w1.heap.size < w5.heap.size := (by omega); have hn15 : w1.heap.size ≠ w5.heap.size := (by omega); have t5 : rowAt w5 w1.heap.size = some tk.tk.cells := (s5.row (by simp; omega) (by omega)).trans ((rowAt_old _ _ _ (by simp)).trans (rowAt_at _ _ _ _ _ rfl)); have k5 : roomAt w5 (w1.heap.size + 1) 6 = true := (s5.room (by simp) (by omega) 6).trans (roomNd_new _ _ _ _ (by simp)); have m5 : roomAt w5 w.heap.size 6 = true := (s5.room (by simp; omega) (by omega) 6).trans ((roomAt_old _ _ _ _ (by simp; omega)).trans ((roomAt_old _ _ _ _ (by omega)).trans m1)); have A5 : Hid (Ds w w5 b g cap L i5 o5 er (p : Int)) := ((A1.out.alloc _).alloc _).next s5; have P5 := A5.out.old bl gl (w1.heap.size + 1) (by omega) c5.cells; have c25 := P5.rd.c2; have f25 := P5.rd.fz 2; have l5 := P5.rd.bl; have rx5 : rowAt (putRow w5 (w1.heap.size + 1) c5.cells) (w1.heap.size + 1) = some c5.cells := rowNd_put _ _ _ k5; have rt5 : rowAt (putRow w5 (w1.heap.size + 1) c5.cells) w1.heap.size = some tk.tk.cells := (row_far _ _ _ _ (by omega)).trans t5; have rm5 : roomAt (putRow w5 (w1.heap.size + 1) c5.cells) w.heap.size 6 = true := (room_far _ _ _ _ _ (by omega)).trans m5; have ct5 := rowAt_cell rt5; rw [size_put] at l5; have nb1 : w1.heap.size + 1 ≠ b := (by omega); have nb2 : w1.heap.size ≠ b := (by omega); have nb3 : w.heap.size ≠ b := (by omega); have P5 : Hid (Ds w (putRow w5 (w1.heap.size + 1) c5.cells) b g cap L i5 o5 er (p : Int)) := P5))
      exact ret_cell1 rfl rfl (loadNd_row ((rowAt_old _ _ _ (by rw [size_put]; simp [size_put]; omega)).trans (rowNd_put _ _ _ ((roomAt_far _ _ _ _ _ nb3).trans rm5)))) rfl ⟨_, i5, _, rfl, he5, ((P5.out.setO _).old bl gl _ (Nat.le_refl _) _).alloc _⟩
    | ok y s =>
      rw [Rs.bind_ok]
      go_enter Tryd.func77, Tryd.ntmps77
      go_wp2_with (first
        | (go_at_call 98; refine (OP.out _ (H.out.alloc _)).mono ?_; rintro e w1 ⟨rfl, s1⟩; have hs1 := s1.size; simp at hs1; have hl1 : w.heap.size < w1.heap.size := (by omega); have A1 : Hid (Ds w w1 b g cap L (i + 1) ((o : Int) + 1) 0 0) := ((Ds.refl H.out).alloc _).next s1; have c31 := s1.rd.c3; have l1 := s1.rd.bl; have m1 : roomAt w1 w.heap.size 6 = true := (s1.room (by simp) (by omega) 6).trans (roomNd_new _ _ _ _ (by simp)))
        | (go_at_call 78; refine (TT.out _ ((A1.out.alloc _).alloc _).rd).mono ?_; rintro e w5 ⟨c5, i5, rfl, ht5, hi5, s5, nd5⟩; have hs5 := s5.size; simp at hs5; have hl5 : w.heap.size < w5.heap.size := (by omega); have hl15 : w1.heap.size < w5.heap.size := (by omega); have hn15 : w1.heap.size ≠ w5.heap.size := (by omega); have t5 : rowAt w5 w1.heap.size = some tk.tk.cells := (s5.row (by simp; omega) (by omega)).trans ((rowAt_old _ _ _ (by simp)).trans (rowAt_at _ _ _ _ _ rfl)); have k5 : roomAt w5 (w1.heap.size + 1) 6 = true := (s5.room (by simp) (by omega) 6).trans (roomNd_new _ _ _ _ (by simp)); have m5 : roomAt w5 w.heap.size 6 = true := (s5.room (by simp; omega) (by omega) 6).trans ((roomAt_old _ _ _ _ (by simp; omega)).trans ((roomAt_old _ _ _ _ (by omega)).trans m1)); have A5 : Hid (Ds w w5 b g cap L i5 ((o + 1 : Nat) : Int) 0 0) := ((A1.out.alloc _).alloc _).next s5; have P5 := A5.out.old bl gl (w1.heap.size + 1) (by omega) c5.cells; have c25 := P5.rd.c2; have f25 := P5.rd.fz 2; have l5 := P5.rd.bl; have rx5 : rowAt (putRow w5 (w1.heap.size + 1) c5.cells) (w1.heap.size + 1) = some c5.cells := rowNd_put _ _ _ k5; have rt5 : rowAt (putRow w5 (w1.heap.size + 1) c5.cells) w1.heap.size = some tk.tk.cells := (row_far _ _ _ _ (by omega)).trans t5; have rm5 : roomAt (putRow w5 (w1.heap.size + 1) c5.cells) w.heap.size 6 = true := (room_far _ _ _ _ _ (by omega)).trans m5; have ct5 := rowAt_cell rt5; rw [size_put] at l5; have nb1 : w1.heap.size + 1 ≠ b := (by omega); have nb2 : w1.heap.size ≠ b := (by omega); have nb3 : w.heap.size ≠ b := (by omega); have P5 : Hid (Ds w (putRow w5 (w1.heap.size + 1) c5.cells) b g cap L i5 ((o + 1 : Nat) : Int) 0 0) := P5))
      refine ret_cell1 rfl rfl (loadNd_row ((rowAt_old _ _ _ (by rw [size_put]; simp [size_put]; omega)).trans (rowNd_put _ _ _ ((roomAt_far _ _ _ _ _ nb3).trans rm5)))) rfl ⟨_, i5, rfl, ht5, by omega, ((P5.out.setO _).old bl gl _ (Nat.le_refl _) _).alloc _, ?_⟩
      exact one_made (blk := w5.heap.size) 36 tk.t tk.p (by show w.heap.size ≤ w5.heap.size; omega) (heap_new' _ _ (by simp [size_put])) (nd5.keep (fun x hx _ => by simp at hx; omega) (by simp [size_put]) (fun x hx hl => by
        simp at hx
        exact (((Below.refl _ _).alloc (Nat.le_refl _) _).block x (by simp [size_put]; exact hl)).trans ((put_far _ _ _ _ (by omega)).trans ((Below.heap_setCell _ _ _ _ (by show x ≠ b; omega)).trans (put_far _ _ _ _ (by omega))))))
set_option maxHeartbeats 4000000 in
set_option maxRecDepth 20000 in
theorem signed_factor (f : Nat) (hT : Pd 99 .factor f) (w : World) (b g cap : Nat) (L : List Tok) (i o : Nat) (h : DAt w b g cap L i (o : Int) 0 0) (ho : o ≤ 24) (hok : ∀ x ∈ L, okT x) (hk0 : (hd (L.drop i)).k ≠ 0) (hf : (L.length - i) * 40 ≤ f + 26) :
    Calls Tryd.prog 77 #[.pointer (some ⟨b, 0, none⟩), .bool false] w (PostD w b g cap L i o ((beginR o (L.drop i)).bind fun x r => (run f .factor (o + 1) r).bind fun y s => .ok (unN x y) s)) := by
  have bl := h.bl
  have gl := h.gl
  have hil := h.il
  have hll := h.ll
  have H : Hid (DAt w b g cap L i (o : Int) 0 0) := h
  unfold beginR
  by_cases ho24 : o = 24
  · subst ho24
    rw [if_pos rfl, Rs.bind_bad]
    have OP : Hid (∀ X, DAt X b g cap L i 24 0 0 → Calls Tryd.prog 98 #[.pointer (some ⟨b, 0, none⟩), .int .i64 1] X _) := fun X hX => opens_f X b g cap L i hX
    clear h hT hok
    generalize (hd (L.drop i)).p = pp at OP ⊢
    go_enter Tryd.func77, Tryd.ntmps77
    go_wp2_with (go_at_call 98; refine (OP.out _ (H.out.alloc _)).mono ?_; rintro e w1 ⟨rfl, s1⟩; have hs1 := s1.size; simp at hs1; have hl1 : w.heap.size < w1.heap.size := (by omega); have A1 : Hid (Ds w w1 b g cap L i 24 91 (pp : Int)) := ((Ds.refl H.out).alloc _).next s1; have c31 := s1.rd.c3; have l1 := s1.rd.bl; have m1 : roomAt w1 w.heap.size 6 = true := (s1.room (by simp) (by omega) 6).trans (roomNd_new _ _ _ _ (by simp)))
    exact ret_cell1 rfl rfl (loadNd_row ((rowAt_old _ _ _ (by rw [size_put]; omega)).trans (rowNd_put _ _ _ m1))) rfl ⟨_, i, 24, rfl, by decide, (A1.out.old bl gl _ (Nat.le_refl _) _).alloc _⟩
  · rw [if_neg ho24, Rs.bind_ok, List.tail_drop]
    have OP : Hid (∀ X, DAt X b g cap L i (o : Int) 0 0 → Calls Tryd.prog 98 #[.pointer (some ⟨b, 0, none⟩), .int .i64 1] X _) := fun X hX => opens_t X b g cap L i o hX (by omega) hk0
    have TT : Hid (∀ X, DAt X b g cap L (i + 1) ((o : Int) + 1) 0 0 → Calls Tryd.prog 99 #[.pointer (some ⟨b, 0, none⟩)] X (PostD X b g cap L (i + 1) (o + 1) (run f .factor (o + 1) (L.drop (i + 1))))) := fun X hX => hT X b g cap L (i + 1) (o + 1) (by simpa using hX) (by omega) hok (by show (L.length - (i + 1)) * 40 + 12 ≤ f; omega)
    clear h hT hok hk0
    obtain ⟨tk, htk⟩ : ∃ tk, tk = hd (L.drop i) := ⟨_, rfl⟩
    rw [← htk] at OP ⊢
    clear htk
    generalize run f .factor (o + 1) (L.drop (i + 1)) = R at TT ⊢
    cases R with
    | bad p er =>
      rw [Rs.bind_bad]
      go_enter Tryd.func77, Tryd.ntmps77
      go_wp2_with (first
        | (go_at_call 98; refine (OP.out _ (H.out.alloc _)).mono ?_; rintro e w1 ⟨rfl, s1⟩; have hs1 := s1.size; simp at hs1; have hl1 : w.heap.size < w1.heap.size := (by omega); have A1 : Hid (Ds w w1 b g cap L (i + 1) ((o : Int) + 1) 0 0) := ((Ds.refl H.out).alloc _).next s1; have c31 := s1.rd.c3; have l1 := s1.rd.bl; have m1 : roomAt w1 w.heap.size 6 = true := (s1.room (by simp) (by omega) 6).trans (roomNd_new _ _ _ _ (by simp)))
        | (go_at_call 99; refine (TT.out _ ((A1.out.alloc _).alloc _).rd).mono ?_; rintro e w5 ⟨c5, i5, o5, rfl, he5, s5⟩; have hs5 := s5.size; simp at hs5; have hl5 : w.heap.size < w5.heap.size := (by omega); have hl15 : w1.heap.size < w5.heap.size := (by omega); have hn15 : w1.heap.size ≠ w5.heap.size := (by omega); have t5 : rowAt w5 w1.heap.size = some tk.tk.cells := (s5.row (by simp; omega) (by omega)).trans ((rowAt_old _ _ _ (by simp)).trans (rowAt_at _ _ _ _ _ rfl)); have k5 : roomAt w5 (w1.heap.size + 1) 6 = true := (s5.room (by simp) (by omega) 6).trans (roomNd_new _ _ _ _ (by simp)); have m5 : roomAt w5 w.heap.size 6 = true := (s5.room (by simp; omega) (by omega) 6).trans ((roomAt_old _ _ _ _ (by simp; omega)).trans ((roomAt_old _ _ _ _ (by omega)).trans m1)); have A5 : Hid (Ds w w5 b g cap L i5 o5 er (p : Int)) := ((A1.out.alloc _).alloc _).next s5; have P5 := A5.out.old bl gl (w1.heap.size + 1) (by omega) c5.cells; have c25 := P5.rd.c2; have f25 := P5.rd.fz 2; have l5 := P5.rd.bl; have rx5 : rowAt (putRow w5 (w1.heap.size + 1) c5.cells) (w1.heap.size + 1) = some c5.cells := rowNd_put _ _ _ k5; have rt5 : rowAt (putRow w5 (w1.heap.size + 1) c5.cells) w1.heap.size = some tk.tk.cells := (row_far _ _ _ _ (by omega)).trans t5; have rm5 : roomAt (putRow w5 (w1.heap.size + 1) c5.cells) w.heap.size 6 = true := (room_far _ _ _ _ _ (by omega)).trans m5; have ct5 := rowAt_cell rt5; rw [size_put] at l5; have nb1 : w1.heap.size + 1 ≠ b := (by omega); have nb2 : w1.heap.size ≠ b := (by omega); have nb3 : w.heap.size ≠ b := (by omega); have P5 : Hid (Ds w (putRow w5 (w1.heap.size + 1) c5.cells) b g cap L i5 o5 er (p : Int)) := P5))
      exact ret_cell1 rfl rfl (loadNd_row ((rowAt_old _ _ _ (by rw [size_put]; simp [size_put]; omega)).trans (rowNd_put _ _ _ ((roomAt_far _ _ _ _ _ nb3).trans rm5)))) rfl ⟨_, i5, _, rfl, he5, ((P5.out.setO _).old bl gl _ (Nat.le_refl _) _).alloc _⟩
    | ok y s =>
      rw [Rs.bind_ok]
      go_enter Tryd.func77, Tryd.ntmps77
      go_wp2_with (first
        | (go_at_call 98; refine (OP.out _ (H.out.alloc _)).mono ?_; rintro e w1 ⟨rfl, s1⟩; have hs1 := s1.size; simp at hs1; have hl1 : w.heap.size < w1.heap.size := (by omega); have A1 : Hid (Ds w w1 b g cap L (i + 1) ((o : Int) + 1) 0 0) := ((Ds.refl H.out).alloc _).next s1; have c31 := s1.rd.c3; have l1 := s1.rd.bl; have m1 : roomAt w1 w.heap.size 6 = true := (s1.room (by simp) (by omega) 6).trans (roomNd_new _ _ _ _ (by simp)))
        | (go_at_call 99; refine (TT.out _ ((A1.out.alloc _).alloc _).rd).mono ?_; rintro e w5 ⟨c5, i5, rfl, ht5, hi5, s5, nd5⟩; have hs5 := s5.size; simp at hs5; have hl5 : w.heap.size < w5.heap.size := (by omega); have hl15 : w1.heap.size < w5.heap.size := (by omega); have hn15 : w1.heap.size ≠ w5.heap.size := (by omega); have t5 : rowAt w5 w1.heap.size = some tk.tk.cells := (s5.row (by simp; omega) (by omega)).trans ((rowAt_old _ _ _ (by simp)).trans (rowAt_at _ _ _ _ _ rfl)); have k5 : roomAt w5 (w1.heap.size + 1) 6 = true := (s5.room (by simp) (by omega) 6).trans (roomNd_new _ _ _ _ (by simp)); have m5 : roomAt w5 w.heap.size 6 = true := (s5.room (by simp; omega) (by omega) 6).trans ((roomAt_old _ _ _ _ (by simp; omega)).trans ((roomAt_old _ _ _ _ (by omega)).trans m1)); have A5 : Hid (Ds w w5 b g cap L i5 ((o + 1 : Nat) : Int) 0 0) := ((A1.out.alloc _).alloc _).next s5; have P5 := A5.out.old bl gl (w1.heap.size + 1) (by omega) c5.cells; have c25 := P5.rd.c2; have f25 := P5.rd.fz 2; have l5 := P5.rd.bl; have rx5 : rowAt (putRow w5 (w1.heap.size + 1) c5.cells) (w1.heap.size + 1) = some c5.cells := rowNd_put _ _ _ k5; have rt5 : rowAt (putRow w5 (w1.heap.size + 1) c5.cells) w1.heap.size = some tk.tk.cells := (row_far _ _ _ _ (by omega)).trans t5; have rm5 : roomAt (putRow w5 (w1.heap.size + 1) c5.cells) w.heap.size 6 = true := (room_far _ _ _ _ _ (by omega)).trans m5; have ct5 := rowAt_cell rt5; rw [size_put] at l5; have nb1 : w1.heap.size + 1 ≠ b := (by omega); have nb2 : w1.heap.size ≠ b := (by omega); have nb3 : w.heap.size ≠ b := (by omega); have P5 : Hid (Ds w (putRow w5 (w1.heap.size + 1) c5.cells) b g cap L i5 ((o + 1 : Nat) : Int) 0 0) := P5))
      refine ret_cell1 rfl rfl (loadNd_row ((rowAt_old _ _ _ (by rw [size_put]; simp [size_put]; omega)).trans (rowNd_put _ _ _ ((roomAt_far _ _ _ _ _ nb3).trans rm5)))) rfl ⟨_, i5, rfl, ht5, by omega, ((P5.out.setO _).old bl gl _ (Nat.le_refl _) _).alloc _, ?_⟩
      exact one_made (blk := w5.heap.size) 36 tk.t tk.p (by show w.heap.size ≤ w5.heap.size; omega) (heap_new' _ _ (by simp [size_put])) (nd5.keep (fun x hx _ => by simp at hx; omega) (by simp [size_put]) (fun x hx hl => by
        simp at hx
        exact (((Below.refl _ _).alloc (Nat.le_refl _) _).block x (by simp [size_put]; exact hl)).trans ((put_far _ _ _ _ (by omega)).trans ((Below.heap_setCell _ _ _ _ (by show x ≠ b; omega)).trans (put_far _ _ _ _ (by omega))))))
end Go.Proofs.YtejcjhoojpoamaaDoor
